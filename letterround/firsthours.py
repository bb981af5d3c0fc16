"""The least and the greatest hours at which houses get letters, and the stretches that have to be gone ahead."""

from letterround.errors import NoLetter
from letterround.hours import all_tight, ask_some_round
from letterround.lengths import ask_lengths, length_of
from letterround.stretches import least_stretches, stretches_ahead
from letterround.villages import ask_house
from letterround.ways import ask_path, paths_on_way


def ask_served(village, letters, houses):
    """Raises NoHouse for what is none among houses, then NoLetter for what gets none."""
    for house in houses:
        ask_house(village, house)
    for house in houses:
        if letters[house] == 0:
            raise NoLetter(house)


def ask_timed(village, letters, ledger, lengths, houses):
    """Raises BadLetters, BadLedger, NoRound, BadLengths, NoHouse, NoLetter."""
    ask_some_round(village, letters, ledger)
    ask_lengths(village, lengths)
    ask_served(village, letters, houses)


def stretches_by_hours(village, letters, ledger, lengths):
    """The least stretches by hours: bringing a letter takes none."""
    return least_stretches(village, letters, ledger, lengths, {house: 0 for house in village.houses()})


def least_stretch(village, letters, ledger, lengths, house, far):
    """The least number of hours of a stretch from house by the path to far, None if it is not gone."""
    ask_some_round(village, letters, ledger)
    ask_lengths(village, lengths)
    ask_path(village, house, far)
    stretches = stretches_by_hours(village, letters, ledger, lengths)
    return stretches[(house, far)][0] if (house, far) in stretches else None


def earliest(village, letters, ledger, lengths, start, house):
    """The first hour of a house, where all is as it should be."""
    if house == start:
        return 0
    stretches = stretches_by_hours(village, letters, ledger, lengths)
    ahead = stretches_ahead(village, letters, ledger, start, house)
    hours = sum([stretches[pair][0] for pair in ahead])
    return hours + sum([lengths[path] for path in paths_on_way(village, start, house)])


def latest(village, letters, ledger, lengths, start, house):
    """The last hour of a house, where all is as it should be."""
    hours = length_of(lengths, ledger)
    if house != start:
        return hours - earliest(village, letters, ledger, lengths, start, house)
    if letters[start] == 1:
        return 0
    stretches = stretches_by_hours(village, letters, ledger, lengths)
    return hours - sum([stretches[(start, far)][0] for far in all_tight(village, letters, ledger)[start]])


def first_hour(village, letters, ledger, lengths, start, house):
    """The least hour at which a letter for house is brought, in rounds whose first letter is for start."""
    ask_timed(village, letters, ledger, lengths, [start, house])
    return earliest(village, letters, ledger, lengths, start, house)


def first_hours(village, letters, ledger, lengths, start):
    """The dict from all houses with letters to the least hours at which one is brought."""
    ask_timed(village, letters, ledger, lengths, [start])
    served = [house for house in village.houses() if letters[house] > 0]
    return {house: earliest(village, letters, ledger, lengths, start, house) for house in served}


def last_hour(village, letters, ledger, lengths, start, house):
    """The greatest hour at which a letter for house is brought, in rounds whose first letter is for start."""
    ask_timed(village, letters, ledger, lengths, [start, house])
    return latest(village, letters, ledger, lengths, start, house)


def last_hours(village, letters, ledger, lengths, start):
    """The dict from all houses with letters to the greatest hours at which one is brought."""
    ask_timed(village, letters, ledger, lengths, [start])
    served = [house for house in village.houses() if letters[house] > 0]
    return {house: latest(village, letters, ledger, lengths, start, house) for house in served}
