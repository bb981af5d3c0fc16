"""Runs with a direction of which begins and ends are told, and how often each path is gone both ways."""

from letterround.errors import BadCaps, BadReturns, BadTold
from letterround.flows import all_steps, flows_paper, has_number_pairs
from letterround.kinds import is_table
from letterround.letters import all_beyond
from letterround.villages import path_between
from letterround.ways import ask_path, pairs_behind_further


def ask_told(village, told):
    """Raises BadTold for what is no dict from just all houses to pairs of numbers, begins as many as ends."""
    if not has_number_pairs(told, village.houses()):
        raise BadTold(told)
    if sum([begins for begins, ends in told.values()]) != sum([ends for begins, ends in told.values()]):
        raise BadTold(told)


def differences(village, told):
    """The dict from all steps to how many runs more go so than back."""
    # What ends beyond more than begins there goes there.
    return all_beyond(village, {house: told[house][1] - told[house][0] for house in village.houses()})


def more_one_way(village, told, house, other):
    """How many runs more go from house to other than back."""
    ask_told(village, told)
    ask_path(village, house, other)
    return differences(village, told)[(house, other)]


def flows_with(village, told, returns):
    """The flows with told ends and these returns."""
    ask_told(village, told)
    if not is_table(returns, village.paths()):
        raise BadReturns(returns)
    return flows_by(village, told, returns)


def flows_by(village, told, returns):
    """The flows with told ends and returns, where both are as they should be."""
    more = differences(village, told)
    by_step = {}
    for one, other in all_steps(village):
        by_step[(one, other)] = returns[path_between(one, other)] + max(0, more[(one, other)])
    return by_step, {house: (told[house][0], told[house][1]) for house in village.houses()}


def all_coming(village, told):
    """The dict from all houses to how many come there, or begin, if there are no returns."""
    more = differences(village, told)
    coming = {house: told[house][0] for house in village.houses()}
    for house, other in more:
        coming[other] += max(0, more[(house, other)])
    return coming


def greatest_returns(village, told, caps):
    """The returns beneath caps, some runs', that have on each path as much as any such ones, None if there are none."""
    ask_told(village, told)
    if not is_table(caps, village.paths()):
        raise BadCaps(caps)
    more = differences(village, told)
    coming = all_coming(village, told)
    near = village.near()
    let = {}
    for house, other in pairs_behind_further(village):
        inner = coming[other] - abs(more[(house, other)])
        inner += sum([let[(other, third)] for third in near[other] if third != house])
        let[(house, other)] = min(caps[path_between(house, other)], inner)
    returns = {(one, other): min(let[(one, other)], let[(other, one)]) for one, other in village.paths()}
    for house in village.houses():
        come = coming[house] + sum([returns[path_between(house, other)] for other in near[house]])
        if sum(told[house]) > come:
            return None
    return returns


def fewest_returns(village, told):
    """The ascending list of all returns of some runs beneath which no others are."""
    ask_told(village, told)
    more = differences(village, told)
    runs = sum([begins for begins, ends in told.values()])
    rows = [[]]
    for path in village.paths():
        # A run goes a path once at most.
        numbers = list(range((runs - abs(more[path])) // 2 + 1))
        rows = [[*row, number] for row in rows for number in numbers]
    fewest = []
    for row in rows:
        returns = {path: number for path, number in zip(village.paths(), row)}
        # Whatever is beneath a row is ahead of it.
        if not any([is_beneath(less, returns) for less in fewest]):
            if flows_paper(village, flows_by(village, told, returns)) is None:
                fewest.append(returns)
    return fewest


def is_beneath(less, returns):
    """Tells whether returns have on each path at least what others have."""
    return all([less[path] <= returns[path] for path in less])
