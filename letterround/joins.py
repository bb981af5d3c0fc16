"""Members joined at houses, and the rows of houses that they lead to.

A member of a house is a pair (sign, index): a pass of the path to the house sign, which has one index at both its
houses, or an end at the house itself. Members of unlike signs are joined in groups, each member in just one.
"""


def members_of(numbers):
    """The list of the members of signs, so many of each, those of one sign one behind another."""
    return [(sign, index) for sign in numbers for index in range(numbers[sign])]


def in_pairs(numbers):
    """The members of signs, so many of each, in pairs of unlike signs: none has more than half of all."""
    return halved(members_of(numbers))


def halved(members):
    """Members in pairs, each with the one half of all further on: so two of one sign are in none."""
    half = len(members) // 2
    return [[members[place], members[place + half]] for place in range(half)]


def rows_joined(groups):
    """The list of the rows of the houses of all ends that hang together, groups being a dict from houses to lists."""
    joined = {}
    for house in groups:
        for group in groups[house]:
            for sign, index in group:
                joined[(house, sign, index)] = group
    rows = []
    seen = {}
    for house, sign, index in joined:
        if sign == house and (house, index) not in seen:
            ends = ends_from(joined, house, index)
            for end in ends:
                seen[end] = True
            rows.append([place for place, number in ends])
    return rows


def ends_from(joined, house, index):
    """The list of the pairs (house, index) of all ends that hang together with one, in the order of a walk there."""
    ends = [(house, index)]
    ahead = others_of(joined, house, (house, index))
    while ahead:
        place, (sign, number) = ahead.pop()
        if sign == place:
            ends.append((place, number))
        else:
            ahead.extend(others_of(joined, sign, (place, number)))
    return ends


def others_of(joined, house, member):
    """The list of the pairs (house, member) of the members that a house's member is joined with."""
    sign, index = member
    return [(house, other) for other in joined[(house, sign, index)] if other != member]
