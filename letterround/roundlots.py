"""Lots: letters brought in several rounds, which ledgers they have, and how many rounds they can be."""

from letterround.errors import BadLot
from letterround.joins import in_pairs, rows_joined
from letterround.kinds import ask_from_one, is_listed
from letterround.letters import ask_letters, letters_of, round_flaw
from letterround.pathcounts import end_bounds
from letterround.rounds import ledger_of, walk_of
from letterround.therule import ask_both, spare
from letterround.villages import path_between
from letterround.ways import rooted, signs_from


def lot_flaw(village, thing):
    """The index of the first thing that is no round, 0 for no list or an empty one, None if all are."""
    if not is_listed(thing) or len(thing) == 0:
        return 0
    for index, row in enumerate(thing):
        if round_flaw(village, row) is not None:
            return index
    return None


def ask_lot(village, lot):
    """Raises BadLot for what is no list of one or more rounds."""
    index = lot_flaw(village, lot)
    if index is not None:
        raise BadLot(index)


def is_lot(village, letters, thing):
    """Tells of any object whether it is a list of one or more rounds that have just these letters together."""
    ask_letters(village, letters)
    if lot_flaw(village, thing) is not None:
        return False
    brought = letters_of(village, [house for row in thing for house in row])
    return all([brought[house] == letters[house] for house in brought])


def lot_ledger(village, lot):
    """The ledger of a lot: the sum of its rounds'."""
    ask_lot(village, lot)
    told = {path: 0 for path in village.paths()}
    for row in lot:
        gone = ledger_of(village, row)
        for path in gone:
            told[path] += gone[path]
    return told


def lot_fault(village, letters, ledger):
    """The first pair of a house and a path that is more there than all else, None if there is none."""
    left_over = spare(village, letters, ledger)
    faults = [(house, path_between(house, other)) for house, other in left_over if left_over[(house, other)] < 0]
    return min(faults, default=None)


def lot_numbers(village, letters, ledger):
    """The pair of the least and the greatest number of rounds of lots with the ledger, None if there are none."""
    if lot_fault(village, letters, ledger) is not None:
        return None
    ends = [end_bounds(village, ledger, house)[0] for house in village.houses()]
    return count_parts(village, letters, ledger), sum(letters.values()) - sum(ends) // 2


def count_parts(village, letters, ledger):
    """How many parts of a village hang together by paths that are gone, those without letters left out."""
    part = {}
    served = {}
    for house, back in rooted(village, village.houses()[0]):
        joined = back is not None and ledger[path_between(house, back)] > 0
        part[house] = part[back] if joined else house
        if letters[house] > 0:
            served[part[house]] = True
    return len(served)


def lot_of(village, letters, ledger, number):
    """A lot of so many rounds with the ledger, None if there is none."""
    ask_both(village, letters, ledger)
    ask_from_one(number)
    numbers = lot_numbers(village, letters, ledger)
    if numbers is None or not numbers[0] <= number <= numbers[1]:
        return None
    return made_fewer(village, greatest_lot(village, letters, ledger), number)


def greatest_lot(village, letters, ledger):
    """A lot of as many rounds with the ledger as can be, where there are some."""
    groups = {}
    alone = []
    for house in village.houses():
        ends = end_bounds(village, ledger, house)[0]
        gone = {other: ledger[path_between(house, other)] for other in village.near()[house]}
        if ends > letters[house]:
            groups[house] = with_three(gone)
        else:
            groups[house] = in_pairs({**gone, house: ends})
            alone.extend([[house] for _ in range(letters[house] - ends)])
    return rows_joined(groups) + alone


def with_three(gone):
    """The passes of a house's paths, an odd number, of which none is half: three in one group, the others in pairs."""
    frequent = sorted([(-gone[other], other) for other in gone])[:3]
    three = [other for number, other in frequent]
    left = {other: gone[other] - 1 if other in three else gone[other] for other in gone}
    return [[(other, left[other]) for other in three], *in_pairs(left)]


def made_fewer(village, rows, number):
    """So many rounds, made of more by making two of them one again and again."""
    left = [(row, houses_walked(village, row)) for row in rows]
    done = []
    while len(done) + len(left) > number:
        row, there = left[0]
        meeting = [place for place in range(1, len(left)) if any([house in there for house in left[place][1]])]
        if meeting:
            other, further = left.pop(meeting[0])
            left[0] = (made_one(village, row, other), {**there, **further})
        else:
            # All that hangs together with this round is part of it.
            done.append(row)
            left = left[1:]
    return done + [row for row, there in left]


def houses_walked(village, row):
    """The dict with the houses that a round's walk comes to as keys."""
    return {house: True for house in walk_of(village, row)}


def made_one(village, one, other):
    """A round with the letters and the ledgers of two together, None if no house is on both walks."""
    there = houses_walked(village, other)
    common = [house for house in walk_of(village, one) if house in there]
    if len(common) == 0:
        return None
    house = common[0]
    signs = signs_from(village, house)
    first = begun_behind(signs, one, house)
    second = begun_behind(signs, other, house)
    if goes_by(signs, first[-1], second[0], house) and goes_by(signs, second[-1], first[0], house):
        return first + second
    # Turned about, the other one is left where it was come to.
    return first + second[::-1]


def goes_by(signs, one, other, house):
    """Tells whether the way from one to other comes to a house, by what both are seen as from there."""
    return signs[one] != signs[other] or signs[one] == house


def begun_behind(signs, row, house):
    """A round turned so that the way from its last letter to its first comes to a house on its walk."""
    places = [place for place in range(len(row)) if goes_by(signs, row[place - 1], row[place], house)]
    return [*row[places[0]:], *row[:places[0]]]
