"""Chances of weaves, of which each is drawn as likely: how many runs join two signs, where a run ends."""

from math import comb, factorial

from letterround.errands import signs_by_counts
from letterround.errors import NoEnds
from letterround.joined import ask_signs, ask_some_errands, ask_two_houses, span_joined, turns_of_way
from letterround.lowest import added, lowest, times
from letterround.pairings import count_of_pairings
from letterround.villages import ask_house
from letterround.ways import rooted, way
from letterround.weaves import all_signs


def ways_joined(signs, one, other):
    """The dict from how many runs can join two of a house's signs to how many pairings have so many.

    They are counted without regard to which members of the first sign are joined with the second one's.
    """
    least, most = span_joined(signs, one, other)
    others = [signs[sign] for sign in signs if sign not in (one, other)]
    told = {}
    for number in range(least, most + 1):
        left = signs[one] + signs[other] - 2 * number
        told[number] = comb(signs[other], number) * factorial(number) * count_of_pairings([left, *others])
    return told


def joined_chances(village, counts, house, one, other):
    """The dict from numbers to the chances, above 0, that just so many runs join two signs at a house."""
    ask_some_errands(village, counts)
    ask_signs(village, house, one, other)
    signs = signs_by_counts(village, counts, house)
    many = count_of_pairings(list(signs.values()))
    ways = ways_joined(signs, one, other)
    return {number: lowest(comb(signs[one], number) * ways[number], many) for number in ways}


def meeting_chance(signs, one, other):
    """The chance that a member of a sign is in a pair with one of another, (0, 1) if one of both has none."""
    if signs[one] == 0 or signs[other] == 0:
        return 0, 1
    left = [signs[sign] - 1 if sign in (one, other) else signs[sign] for sign in signs]
    return lowest(signs[other] * count_of_pairings(left), count_of_pairings(list(signs.values())))


def ask_ends_of(village, counts, house):
    """Raises BadCounts, NoErrands, NoHouse, NoEnds."""
    ask_some_errands(village, counts)
    ask_house(village, house)
    if counts[1][house] == 0:
        raise NoEnds(house)


def coming_chances(village, counts, house):
    """The dict from all houses to the chances that a run with a given end at house comes there."""
    signs = all_signs(village, counts)
    back = {}
    coming = {house: (1, 1)}
    for place, towards in rooted(village, house):
        back[place] = place if towards is None else towards
        if towards is not None:
            onward = meeting_chance(signs[towards], back[towards], place)
            coming[place] = times(coming[towards], onward)
    return {place: coming[place] for place in village.houses()}


def end_chances(village, counts, house):
    """The dict from all houses to the chances that a run with a given end at house ends there."""
    ask_ends_of(village, counts, house)
    signs = all_signs(village, counts)
    coming = coming_chances(village, counts, house)
    told = {place: (0, 1) for place in village.houses()}
    for place, back in rooted(village, house)[1:]:
        told[place] = times(coming[place], meeting_chance(signs[place], back, place))
    return told


def mean_paths(village, counts, house):
    """The mean number of paths of a run with a given end at house."""
    ask_ends_of(village, counts, house)
    coming = coming_chances(village, counts, house)
    # It goes just so many paths as it comes to houses, but the first one.
    return added([coming[place] for place in coming if place != house])


def run_chances(village, counts, one, other):
    """The dict from numbers to the chances, above 0, that just so many runs go between two houses."""
    ask_some_errands(village, counts)
    ask_two_houses(village, one, other)
    row = way(village, one, other)
    first = signs_by_counts(village, counts, one)
    ways = ways_joined(first, one, row[1])
    # How many pairings, of all houses so far, let so many runs come from one.
    through = {number: comb(first[one], number) * ways[number] for number in ways}
    many = count_of_pairings(list(first.values()))
    for house, back, further in turns_of_way(row)[1:]:
        signs = signs_by_counts(village, counts, house)
        through = going_on(through, signs[back], ways_joined(signs, back, further))
        many = many * count_of_pairings(list(signs.values()))
    return {number: lowest(through[number], many) for number in sorted(through)}


def going_on(through, passes, ways):
    """From how many ways so many of a path's passes come from far to how many ways so many of them go on."""
    told = {}
    for coming in through:
        for number in ways:
            for same in range(max(0, coming + number - passes), min(coming, number) + 1):
                worth = comb(coming, same) * comb(passes - coming, number - same)
                told[same] = told.get(same, 0) + through[coming] * worth * ways[number]
    return told
