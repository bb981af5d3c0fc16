"""Errands of which only the counts of paths are known: their ends, and how many runs they can be."""

from letterround.errands import errands_with
from letterround.errors import BadNumber, BadPathCounts
from letterround.kinds import is_number, is_table
from letterround.villages import ask_house, path_between


def ask_path_counts(village, by_path):
    """Raises BadPathCounts for what is no dict from just all paths to numbers."""
    if not is_table(by_path, village.paths()):
        raise BadPathCounts(by_path)


def end_bounds(village, by_path, house):
    """The pair of the fewest and the most ends that a house has in errands with these counts of paths."""
    gone = [by_path[path_between(house, other)] for other in village.near()[house]]
    total = sum(gone)
    return max(total % 2, 2 * max(gone, default=0) - total), total


def ends_for(village, by_path, house):
    """The ascending list of the numbers of ends that a house has in errands with these counts of paths."""
    ask_path_counts(village, by_path)
    ask_house(village, house)
    fewest, most = end_bounds(village, by_path, house)
    return list(range(fewest, most + 1, 2))


def run_numbers(village, by_path):
    """The pair of the fewest and the most runs that errands with these counts of paths can be."""
    ask_path_counts(village, by_path)
    ends = [end_bounds(village, by_path, house) for house in village.houses()]
    return sum([fewest for fewest, most in ends]) // 2, sum(by_path.values())


def errands_of(village, by_path, number):
    """Errands of just so many runs with these counts of paths, None if there are none."""
    fewest_runs, most_runs = run_numbers(village, by_path)
    if not is_number(number):
        raise BadNumber(number)
    if not fewest_runs <= number <= most_runs:
        return None
    # Two ends more at any house are a run more.
    left = number - fewest_runs
    by_house = {}
    for house in village.houses():
        fewest, most = end_bounds(village, by_path, house)
        more = min(left, (most - fewest) // 2)
        by_house[house] = fewest + 2 * more
        left = left - more
    return errands_with(village, (by_path, by_house))
