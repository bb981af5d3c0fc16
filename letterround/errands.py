"""The rule for errands: which counts are some errands', and errands that are built."""

from letterround.joins import in_pairs, rows_joined
from letterround.runs import ask_counts
from letterround.villages import path_between


def signs_by_counts(village, counts, house):
    """The dict, ascending, from a house's signs to their numbers."""
    by_path, by_house = counts
    told = {house: by_house[house]}
    for other in village.near()[house]:
        told[other] = by_path[path_between(house, other)]
    return {sign: told[sign] for sign in sorted(told)}


def errands_fault(village, counts):
    """What is wrong at the first house where counts are no errands', None if nothing is."""
    ask_counts(village, counts)
    for house in village.houses():
        signs = signs_by_counts(village, counts, house)
        total = sum(signs.values())
        if total % 2 == 1:
            return "odd", house
        for sign in signs:
            if 2 * signs[sign] > total:
                return "much", house, sign
    return None


def errands_with(village, counts):
    """Errands with these counts, None if there are none."""
    if errands_fault(village, counts) is not None:
        return None
    groups = {house: in_pairs(signs_by_counts(village, counts, house)) for house in village.houses()}
    return [tuple(row) for row in rows_joined(groups)]
