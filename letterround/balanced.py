"""Numbers of which none is more than all else at its house: at one house, and in all of a village."""

from letterround.villages import path_between
from letterround.ways import rooted


def balanced(mosts, free):
    """Numbers as great as can be, none above its most, none more than the others and the free ones together."""
    total = sum(mosts) + free
    return [min(most, total - most) for most in mosts]


def filled(village, root, letters, mosts, around):
    """The ledger with numbers as great as can be, told from root on, where a path from around is gone so often.

    mosts is a dict from the pairs of a house and one beside it further from root to what is let beyond.
    """
    near = village.near()
    gone = {path: 0 for path in village.paths()}
    for house, back in rooted(village, root):
        inward = around if back is None else gone[path_between(house, back)]
        further = [other for other in near[house] if other != back]
        numbers = balanced([mosts[(house, other)] for other in further], letters[house] + inward)
        for other, number in zip(further, numbers):
            gone[path_between(house, other)] = number
    return gone
