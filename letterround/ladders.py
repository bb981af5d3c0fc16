"""Ladders: from one carried ledger to another, a stretch of paths lowered at a time."""

from letterround.errors import NotCarried
from letterround.kinds import is_listed
from letterround.letters import ask_letters
from letterround.rounds import ask_ledger, is_ledger
from letterround.therule import can_be, parting_paths
from letterround.villages import path_between


def stretches(village, letters):
    """The ascending list of the ascending lists of live paths that are gone equally often, joined one by one."""
    live = parting_paths(village, letters)
    start = {path: path for path in live}
    near = village.near()
    for house in village.houses():
        at_house = [path_between(house, other) for other in near[house] if path_between(house, other) in start]
        if letters[house] == 0 and len(at_house) == 2:
            one, other = start[at_house[0]], start[at_house[1]]
            start = {path: one if start[path] == other else start[path] for path in live}
    # The path that a part is called by is one of its own.
    firsts = [path for path in live if start[path] == path]
    return sorted([[path for path in live if start[path] == first] for first in firsts])


def lowered(village, ledger, stretch):
    """The ledger a step down at a stretch."""
    return {path: ledger[path] - 1 if path in stretch else ledger[path] for path in village.paths()}


def ladder(village, letters, high, low):
    """A ladder from one carried ledger to another, None if high has somewhere less than low."""
    ask_letters(village, letters)
    ask_ledger(village, high)
    ask_ledger(village, low)
    for ledger in (high, low):
        if not can_be(village, letters, ledger):
            raise NotCarried(ledger)
    if any([high[path] < low[path] for path in high]):
        return None
    steps = [lowered(village, high, [])]
    parts = stretches(village, letters)
    while steps[-1] != low:
        steps.append(step_down(village, letters, parts, steps[-1], low))
    return steps


def step_down(village, letters, parts, ledger, low):
    """The first carried ledger a step down that has nowhere less than low."""
    for stretch in parts:
        if ledger[stretch[0]] > low[stretch[0]]:
            below = lowered(village, ledger, stretch)
            if can_be(village, letters, below):
                return below
    return None


def is_ladder(village, letters, thing):
    """Tells of any object whether it is a ladder of these letters."""
    ask_letters(village, letters)
    if not is_listed(thing) or len(thing) == 0:
        return False
    for ledger in thing:
        if not is_ledger(village, ledger) or not can_be(village, letters, ledger):
            return False
    parts = stretches(village, letters)
    return all([is_step(village, parts, ahead, behind) for ahead, behind in zip(thing, thing[1:])])


def is_step(village, parts, ahead, behind):
    """Tells whether one ledger is a step down from another."""
    return any([lowered(village, ahead, stretch) == behind for stretch in parts])
