"""Lots of rounds of one or two letters each."""

from letterround.errands import errands_with
from letterround.kinds import ask_from_one
from letterround.pathcounts import end_bounds
from letterround.therule import ask_both


def least_ends(village, ledger):
    """The dict from all houses to the fewest ends that they have in errands whose paths count as in a ledger."""
    return {house: end_bounds(village, ledger, house)[0] for house in village.houses()}


def pair_numbers(village, letters, ledger):
    """The pair of the least and the greatest number of rounds of such lots with the ledger, None if there are none."""
    ask_both(village, letters, ledger)
    ends = least_ends(village, ledger)
    if any([ends[house] > letters[house] for house in ends]):
        return None
    runs = sum(ends.values()) // 2
    alone = [letters[house] - ends[house] for house in ends]
    return runs + sum([(number + 1) // 2 for number in alone]), runs + sum(alone)


def pair_lot(village, letters, ledger, number):
    """A lot of so many rounds of one or two letters each, with the ledger, None if there is none."""
    numbers = pair_numbers(village, letters, ledger)
    ask_from_one(number)
    if numbers is None or not numbers[0] <= number <= numbers[1]:
        return None
    # Two letters that are brought in one round are the ends of a run, or are both for one house.
    ends = least_ends(village, ledger)
    lot = [list(run) for run in errands_with(village, (ledger, ends))]
    together = numbers[1] - number
    for house in village.houses():
        alone = letters[house] - ends[house]
        pairs = min(together, alone // 2)
        lot.extend([[house, house] for _ in range(pairs)])
        lot.extend([[house] for _ in range(alone - 2 * pairs)])
        together = together - pairs
    return lot
