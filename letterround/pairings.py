"""Pairings: how a house's passes and ends are put in pairs of unlike signs, counted and in order."""

from math import comb

from letterround.errands import signs_by_counts
from letterround.errors import BadMembers, BadNumber, BadPairing
from letterround.joins import members_of
from letterround.kinds import first_no_number, is_listed, is_number, is_pair
from letterround.runs import ask_counts
from letterround.villages import ask_house


def asked_signs(village, counts, house):
    """The dict from a house's signs to their numbers; it raises BadCounts, NoHouse."""
    ask_counts(village, counts)
    ask_house(village, house)
    return signs_by_counts(village, counts, house)


def all_pairings(village, counts, house):
    """The ascending list of all pairings at a house."""
    return pairings_of(asked_signs(village, counts, house))


def pairings_of(signs):
    """The ascending list of all pairings of signs, so many members of each."""
    if has_no_pairing(list(signs.values())):
        return []
    rows = [([], members_of(signs))]
    for _ in range(sum(signs.values()) // 2):
        rows = [row for pairs, left in rows for row in with_least_paired(pairs, left)]
    return [pairs for pairs, left in rows]


def with_least_paired(pairs, left):
    """The list of the rows with a pair more, of the least member left and each other one, and what is left then."""
    least = left[0]
    told = []
    for place, member in enumerate(left):
        if member[0] != least[0]:
            told.append(([*pairs, (least, member)], left[1:place] + left[place + 1:]))
    return told


def is_pairing(village, counts, house, thing):
    """Tells of any object whether it is a pairing at a house, its pairs and their members in any order."""
    return in_order(asked_signs(village, counts, house), thing) is not None


def in_order(signs, thing):
    """A pairing of signs in order, None of any object that is none."""
    if not is_listed(thing) or 2 * len(thing) != sum(signs.values()):
        return None
    seen = {}
    pairs = []
    for pair in thing:
        if not is_pair(pair) or not all([is_member(signs, member) for member in pair]) or pair[0][0] == pair[1][0]:
            return None
        members = sorted([tuple(member) for member in pair])
        for member in members:
            seen[member] = True
        pairs.append(tuple(members))
    return sorted(pairs) if len(seen) == 2 * len(pairs) else None


def is_member(signs, thing):
    """Tells of any object whether it is a member of one of these signs."""
    if not is_pair(thing) or not isinstance(thing[0], str) or thing[0] not in signs:
        return False
    return is_number(thing[1]) and thing[1] < signs[thing[0]]


def count_pairings(village, counts, house):
    """How many pairings there are at a house."""
    return count_of_pairings(list(asked_signs(village, counts, house).values()))


def count_apart(members):
    """In how many ways members, so many of each sign, can be put in pairs of unlike signs."""
    index = first_no_number(members)
    if index is not None:
        raise BadMembers(index)
    return count_of_pairings(members)


def has_no_pairing(numbers):
    """Tells whether so many members of each sign are odd together, or one sign has more than half."""
    total = sum(numbers)
    return total % 2 == 1 or 2 * max(numbers, default=0) > total


def count_of_pairings(numbers):
    """How many pairings there are of so many members of each sign.

    With a minus for each pair of one sign that is taken, pairings with such pairs cancel out.
    """
    if has_no_pairing(numbers):
        return 0
    taken = [1]
    for number in numbers:
        if number > 1:
            taken = product_of_rows(taken, pairs_within(number))
    half = sum(numbers) // 2
    left = any_pairings(half)
    return sum([ways * left[half - pairs] for pairs, ways in enumerate(taken)])


def any_pairings(most):
    """The list of in how many ways 0, 2, 4, .. members can be put in pairs of whatever sign, up to so many pairs."""
    ways = [1]
    for pairs in range(most):
        ways.append(ways[-1] * (2 * pairs + 1))
    return ways


def pairs_within(number):
    """The list of in how many ways 0, 1, 2, .. pairs can be taken from so many members, odd ones with a minus."""
    ways = any_pairings(number // 2)
    told = [comb(number, 2 * pairs) * ways[pairs] for pairs in range(number // 2 + 1)]
    return [-told[pairs] if pairs % 2 == 1 else told[pairs] for pairs in range(len(told))]


def product_of_rows(one, other):
    """From two rows of numbers, for 0, 1, 2, .. of something, to that for both together."""
    told = [0] * (len(one) + len(other) - 1)
    for place, number in enumerate(one):
        for further, times in enumerate(other):
            told[place + further] += number * times
    return told


def pairing_at(village, counts, house, number):
    """The pairing with a number."""
    signs = asked_signs(village, counts, house)
    if not is_number(number) or number >= count_of_pairings(list(signs.values())):
        raise BadNumber(number)
    return numbered_pairing(signs, number)


def numbered_pairing(signs, number):
    """The pairing of signs with a number below how many there are."""
    left = indexes_of(signs)
    ahead = number
    pairs = []
    while left:
        least = least_of(left)
        for sign in list(left)[1:]:
            ways = ways_behind(left, least[0], sign)
            if ahead < ways * len(left[sign]):
                break
            ahead = ahead - ways * len(left[sign])
        member = (sign, left[sign][ahead // ways])
        ahead = ahead - (ahead // ways) * ways
        pairs.append((least, member))
        left = without(left, [least, member])
    return pairs


def pairing_number(village, counts, house, pairing):
    """The number of a pairing."""
    signs = asked_signs(village, counts, house)
    pairs = in_order(signs, pairing)
    if pairs is None:
        raise BadPairing(pairing)
    return number_of_pairs(signs, pairs)


def number_of_pairs(signs, pairs):
    """The number of a pairing of signs, which is in order."""
    left = indexes_of(signs)
    number = 0
    for least, (sign, index) in pairs:
        ahead = [other for other in left if least[0] < other < sign]
        number += sum([len(left[other]) * ways_behind(left, least[0], other) for other in ahead])
        number += left[sign].index(index) * ways_behind(left, least[0], sign)
        left = without(left, [least, (sign, index)])
    return number


def indexes_of(signs):
    """The dict from the signs that have members to the lists of their indexes."""
    return {sign: list(range(signs[sign])) for sign in signs if signs[sign] > 0}


def least_of(left):
    """The least member that is left."""
    sign = min(left)
    return (sign, left[sign][0])


def ways_behind(left, one, other):
    """How many pairings there are of what is left behind a pair of two signs."""
    return count_of_pairings([len(left[sign]) - 1 if sign in (one, other) else len(left[sign]) for sign in left])


def without(left, members):
    """What is left without some members."""
    told = {}
    for sign in left:
        indexes = [index for index in left[sign] if (sign, index) not in members]
        if indexes:
            told[sign] = indexes
    return told
