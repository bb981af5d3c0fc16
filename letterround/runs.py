"""Runs: errands of many runners, and the counts behind them."""

from letterround.errors import BadCounts, BadRuns
from letterround.kinds import is_listed, is_pair, is_table
from letterround.rounds import times_gone, walked
from letterround.villages import is_house


def errands_flaw(village, thing):
    """The index of the first thing that is no run, 0 for no list, None if all are."""
    if not is_listed(thing):
        return 0
    for index, run in enumerate(thing):
        if not is_pair(run) or not all([is_house(village, house) for house in run]) or run[0] == run[1]:
            return index
    return None


def is_errands(village, thing):
    """Tells of any object whether it is errands of the village."""
    return errands_flaw(village, thing) is None


def ask_errands(village, errands):
    """Raises BadRuns for what are no errands."""
    index = errands_flaw(village, errands)
    if index is not None:
        raise BadRuns(index)


def counts_of(village, errands):
    """The pair of how many runs go by each path, and begin or end at each house."""
    ask_errands(village, errands)
    by_path = {path: 0 for path in village.paths()}
    by_house = {house: 0 for house in village.houses()}
    for run in errands:
        gone = times_gone(village, walked(village, run))
        for path in gone:
            by_path[path] += sum(gone[path])
        for house in run:
            by_house[house] += 1
    return by_path, by_house


def is_counts(village, thing):
    """Tells of any object whether it is counts of the village."""
    return is_pair(thing) and is_table(thing[0], village.paths()) and is_table(thing[1], village.houses())


def ask_counts(village, counts):
    """Raises BadCounts for what are no counts."""
    if not is_counts(village, counts):
        raise BadCounts(counts)
