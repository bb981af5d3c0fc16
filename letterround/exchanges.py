"""Weaves that come of one another by exchanges of two pairs at a house."""

from letterround.weaves import asked_weave


def pairings_off(pairs):
    """The list of the pairings that are one exchange off another one, all in order."""
    told = []
    for place, (one, other) in enumerate(pairs):
        for further in range(place + 1, len(pairs)):
            third, last = pairs[further]
            left = pairs[:place] + pairs[place + 1:further] + pairs[further + 1:]
            for first, second in (((one, third), (other, last)), ((one, last), (other, third))):
                if first[0][0] != first[1][0] and second[0][0] != second[1][0]:
                    told.append(sorted([*left, tuple(sorted(first)), tuple(sorted(second))]))
    return told


def weave_with(weave, house, pairs):
    """A new weave like another one, but with a pairing at one house."""
    return {place: list(pairs) if place == house else list(weave[place]) for place in weave}


def exchanges(village, counts, weave):
    """The list of all weaves that are one exchange off, by their numbers."""
    kept = asked_weave(village, counts, weave)
    lesser = []
    greater = []
    for house in kept:
        # Those that are lesser at an earlier house come ahead of all that differ later, greater ones behind.
        found = sorted(pairings_off(kept[house]))
        lesser.extend([weave_with(kept, house, pairs) for pairs in found if pairs < kept[house]])
        greater.append([weave_with(kept, house, pairs) for pairs in found if pairs > kept[house]])
    return lesser + [told for row in reversed(greater) for told in row]


def pairing_row(start, goal):
    """A list of pairings from one to another, each one exchange off the one ahead, as short as can be."""
    ahead = {tuple(start): None}
    reached = [start]
    while tuple(goal) not in ahead:
        further = []
        for pairs in reached:
            for told in pairings_off(pairs):
                if tuple(told) not in ahead:
                    ahead[tuple(told)] = pairs
                    further.append(told)
        reached = further
    row = [goal]
    while ahead[tuple(row[-1])] is not None:
        row.append(ahead[tuple(row[-1])])
    return row[::-1]


def pairing_rows(village, counts, one, other):
    """The first of two weaves, and the dict from all houses to shortest rows from its pairings to the second's."""
    start = asked_weave(village, counts, one)
    goal = asked_weave(village, counts, other)
    return start, {house: pairing_row(start[house], goal[house]) for house in start}


def exchange_distance(village, counts, one, other):
    """The least number of exchanges from one weave to another."""
    start, rows = pairing_rows(village, counts, one, other)
    return sum([len(rows[house]) - 1 for house in start])


def exchange_row(village, counts, one, other):
    """A list of weaves from one to another, each one exchange off the one ahead, as short as can be."""
    start, rows = pairing_rows(village, counts, one, other)
    told = [{house: list(start[house]) for house in start}]
    for house in start:
        for pairs in rows[house][1:]:
            told.append(weave_with(told[-1], house, pairs))
    return told
