"""Runs with a direction: how many go by each step, begin and end, and which such flows are some errands'."""

from letterround.errors import BadFlows
from letterround.kinds import has_just, is_number, is_pair, is_table
from letterround.rounds import walked
from letterround.runs import ask_errands


def all_steps(village):
    """The ascending list of all pairs of a house and one beside it."""
    near = village.near()
    return [(house, other) for house in village.houses() for other in near[house]]


def is_number_pair(thing):
    """Tells whether thing is a pair of numbers."""
    return is_pair(thing) and is_number(thing[0]) and is_number(thing[1])


def has_number_pairs(thing, keys):
    """Tells whether thing is a dict from just these keys to pairs of numbers."""
    return has_just(thing, keys) and all([is_number_pair(pair) for pair in thing.values()])


def ask_flows(village, flows):
    """Raises BadFlows for what is no pair of dicts from all steps to numbers, from all houses to (begins, ends)."""
    if not is_pair(flows) or not is_table(flows[0], all_steps(village)):
        raise BadFlows(flows)
    if not has_number_pairs(flows[1], village.houses()):
        raise BadFlows(flows)


def flows_of(village, errands):
    """The pair of how many runs go by each step, and how many begin and end at each house."""
    ask_errands(village, errands)
    by_step = {pair: 0 for pair in all_steps(village)}
    begins = {house: 0 for house in village.houses()}
    ends = {house: 0 for house in village.houses()}
    for first, last in errands:
        row = walked(village, [first, last])
        for house, other in zip(row, row[1:]):
            by_step[(house, other)] += 1
        begins[first] += 1
        ends[last] += 1
    return by_step, {house: (begins[house], ends[house]) for house in begins}


def coming_and_going(village, flows, house):
    """The pair of the dicts from a house's signs to how many come by them, begins by the house itself, and go."""
    by_step, by_house = flows
    coming = {house: by_house[house][0]}
    going = {house: by_house[house][1]}
    for other in village.near()[house]:
        coming[other] = by_step[(other, house)]
        going[other] = by_step[(house, other)]
    return coming, going


def flows_paper(village, flows):
    """What keeps flows from being some errands', at the first house where something does, None if nothing does."""
    ask_flows(village, flows)
    for house in village.houses():
        coming, going = coming_and_going(village, flows, house)
        total = sum(coming.values())
        if total != sum(going.values()):
            return house, "uneven"
        for sign in coming:
            if coming[sign] + going[sign] > total:
                return house, "ends" if sign == house else sign
    return None


def errands_by(village, flows):
    """Errands with these flows, None if there are none."""
    if flows_paper(village, flows) is not None:
        return None
    onward = {}
    for house in village.houses():
        coming, going = coming_and_going(village, flows, house)
        for (back, index), member in turned_pairs(coming, going):
            onward[(house, back, index)] = member
    errands = []
    for first in village.houses():
        for index in range(flows[1][first][0]):
            errands.append((first, end_of_run(onward, first, index)))
    return errands


def end_of_run(onward, first, index):
    """The house at which a run ends that begins with an index at a house."""
    house = first
    back = first
    sign, number = onward[(house, back, index)]
    while sign != house:
        house, back = sign, house
        sign, number = onward[(house, back, number)]
    return house


def turned_pairs(coming, going):
    """The members that come to a house, each with one of another sign that goes; no sign has more than half of both."""
    come = dict(coming)
    go = dict(going)
    signs = list(coming)
    pairs = []
    while len(pairs) < sum(coming.values()):
        # Signs that have just half of all that is left have to be in each pair.
        most = max([come[sign] + go[sign] for sign in signs])
        one = [sign for sign in signs if come[sign] + go[sign] == most][0]
        if come[one] > 0:
            back, further = one, [sign for sign in signs if sign != one and go[sign] > 0][0]
        else:
            back, further = [sign for sign in signs if sign != one and come[sign] > 0][0], one
        come[back] -= 1
        go[further] -= 1
        pairs.append(((back, come[back]), (further, go[further])))
    return pairs
