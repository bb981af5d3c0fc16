"""Numbers by their parities: which ones a sign can have beside others that are let so.

What is let is a pair (even, odd): of each parity the pair of the least and the greatest number, None if there is
none. All numbers of a parity between are let, too.
"""


def by_parity(span):
    """What is let of all numbers of a span, from its least to its most one."""
    least, most = span
    return run_of(least + least % 2, most - most % 2), run_of(least + 1 - least % 2, most - 1 + most % 2)


def run_of(low, high):
    """The pair of two numbers, None if the second one is less."""
    return (low, high) if low <= high else None


def both_let(one, other):
    """What is let by both of two."""
    return one_parity(one[0], other[0]), one_parity(one[1], other[1])


def one_parity(one, other):
    """The pair of the numbers that two pairs of one parity have in common, None if there are none."""
    if one is None or other is None:
        return None
    return run_of(max(one[0], other[0]), min(one[1], other[1]))


def chosen_states(signs):
    """The states of signs, of each one of its parities chosen: all mosts together, and the choices.

    A state is a pair (parity of all, greatest sum of a least and its most). Of each only as great mosts as can be are
    kept: nothing else bounds what one sign more can have beside these.
    """
    states = {(0, 0): (0, ())}
    for let in signs:
        further = {}
        for parity, greatest in states:
            most, choices = states[(parity, greatest)]
            for chosen in (0, 1):
                if let[chosen] is not None:
                    low, high = let[chosen]
                    state = ((parity + chosen) % 2, max(greatest, low + high))
                    if state not in further or most + high > further[state][0]:
                        further[state] = (most + high, (*choices, chosen))
        states = further
    return states


def let_beside(signs):
    """What is let of one sign more beside others: none is more than all else, and all together are even."""
    found = [None, None]
    states = chosen_states(signs)
    for parity, greatest in states:
        most = states[(parity, greatest)][0]
        # With all others at their mosts the one that asks for most has its least.
        least = max(parity, greatest - most)
        if found[parity] is None:
            found[parity] = (least, most)
        found[parity] = (min(found[parity][0], least), max(found[parity][1], most))
    return found[0], found[1]


def numbers_beside(signs, number):
    """The list of numbers of some signs beside one that has a number which is let there."""
    states = chosen_states(signs)
    good = [pair for pair in states if pair[0] == number % 2 and pair[1] - states[pair][0] <= number <= states[pair][0]]
    choices = states[good[0]][1]
    mosts = [let[chosen][1] for let, chosen in zip(signs, choices)]
    whole = sum(mosts) + number
    return [min(most, whole - most) for most in mosts]
