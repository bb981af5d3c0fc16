"""Runs with a direction of which only the steps are known."""

from letterround.errors import BadSteps
from letterround.flows import all_steps
from letterround.kinds import is_table


def ask_steps(village, steps):
    """Raises BadSteps for what is no dict from just all pairs of a house and one beside it to numbers."""
    if not is_table(steps, all_steps(village)):
        raise BadSteps(steps)


def fewest_by_steps(village, steps):
    """The least number of runs of flows with these steps."""
    return sum([begins for begins, ends in few_ends(village, steps).values()])


def most_by_steps(village, steps):
    """The greatest number of runs of flows with these steps: each step is one."""
    ask_steps(village, steps)
    return sum(steps.values())


def few_ends(village, steps):
    """The dict from all houses to the pairs (begins, ends) of the flows with the fewest runs."""
    ask_steps(village, steps)
    near = village.near()
    told = {}
    for house in village.houses():
        coming = [steps[(other, house)] for other in near[house]]
        going = [steps[(house, other)] for other in near[house]]
        # None of these can be more than all that come.
        most = max([sum(coming), sum(going), *[one + other for one, other in zip(coming, going)]])
        told[house] = (most - sum(coming), most - sum(going))
    return told
