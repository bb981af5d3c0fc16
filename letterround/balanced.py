"""Numbers at one house of which none is more than all else there."""


def balanced(mosts, free):
    """Numbers as great as can be, none above its most, none more than the others and the free ones together."""
    told = list(mosts)
    for place, most in enumerate(mosts):
        told[place] = min(most, sum(mosts) - most + free)
    return told
