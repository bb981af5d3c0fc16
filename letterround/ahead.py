"""Letters ahead of a house's first one, and who is served ahead of whom."""

from letterround.firsthours import ask_served
from letterround.hours import ask_some_round
from letterround.stretches import least_stretches, stretches_ahead


def ask_started(village, letters, ledger, houses):
    """Raises BadLetters, BadLedger, NoRound, NoHouse, NoLetter."""
    ask_some_round(village, letters, ledger)
    ask_served(village, letters, houses)


def stretches_by_letters(village, letters, ledger, worth):
    """The least stretches by what letters are worth: walking takes nothing."""
    return least_stretches(village, letters, ledger, {path: 0 for path in village.paths()}, worth)


def fewest_ahead(village, letters, ledger, start, house):
    """The least number of letters brought ahead of all for house, in rounds whose first letter is for start."""
    ask_started(village, letters, ledger, [start, house])
    if house == start:
        return 0
    stretches = stretches_by_letters(village, letters, ledger, {place: 1 for place in village.houses()})
    return 1 + sum([stretches[pair][0] for pair in stretches_ahead(village, letters, ledger, start, house)])


def can_be_ahead(village, letters, ledger, start, one, other):
    """Tells whether in some round whose first letter is for start one is served ahead of other."""
    ask_started(village, letters, ledger, [start, one, other])
    if one == other or start in (one, other):
        return one == start and one != other
    return one in houses_ahead(village, letters, ledger, start, [one], other)


def houses_ahead(village, letters, ledger, start, houses, other):
    """Those of some houses, none of them start or other, that can be served ahead of other, which is not start."""
    worth = {place: 1 if place == other else 0 for place in village.houses()}
    stretches = stretches_by_letters(village, letters, ledger, worth)
    told = []
    for house in houses:
        needed = stretches_ahead(village, letters, ledger, start, house)
        if sum([stretches[pair][0] for pair in needed]) == 0:
            told.append(house)
    return told


def sure_order(village, letters, ledger, start):
    """The ascending list of the pairs (one, other) of houses of which one is served ahead of other in all rounds."""
    ask_started(village, letters, ledger, [start])
    served = [house for house in village.houses() if letters[house] > 0 and house != start]
    pairs = [(start, house) for house in served]
    for one in served:
        others = [house for house in served if house != one]
        ahead = houses_ahead(village, letters, ledger, start, others, one)
        pairs.extend([(one, other) for other in others if other not in ahead])
    return sorted(pairs)
