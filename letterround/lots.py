"""Lots of houses that hold a path: no more can go by it than they let through."""

from letterround.caps import all_let, ask_capped
from letterround.errors import BadNumber
from letterround.kinds import is_listed, is_number
from letterround.letters import first_no_house
from letterround.therule import parting_paths
from letterround.villages import path_between
from letterround.ways import ask_path


def ask_holding(village, letters, caps, house, other, number):
    """Raises BadLetters, BadCaps, NoHouse, NoPath, BadNumber, in this order."""
    ask_capped(village, letters, caps)
    ask_path(village, house, other)
    if not is_number(number):
        raise BadNumber(number)


def holding_lot(village, letters, caps, house, other, number):
    """A lot for the path from house to other with a sum below number, None if there is none."""
    ask_holding(village, letters, caps, house, other, number)
    return lot_below(village, letters, caps, (house, other), number)


def lot_below(village, letters, caps, pair, number):
    """A lot for the path of a pair with a sum below number, ascending, None if there is none."""
    let = all_let(village, letters, caps)
    return least_lot(village, let, caps, pair) if let[pair] < number else None


def least_lot(village, let, caps, pair):
    """A lot of which the sum is what is let through by the path of a pair: the least one of all."""
    near = village.near()
    told = []
    ahead = [pair]
    while ahead:
        # A path at which less is let through than its cap is led over: what holds it lies further.
        over = [(house, other) for house, other in ahead if let[(house, other)] < caps[path_between(house, other)]]
        told.extend([other for house, other in over])
        ahead = [(other, third) for house, other in over for third in near[other] if third != house]
    return sorted(told)


def is_lot_for(village, thing, pair):
    """Tells of any object whether it is a lot for the path of a pair."""
    house, other = pair
    if not is_listed(thing):
        return False
    if len(thing) == 0:
        return True
    if first_no_house(village, thing) is not None or house in thing or other not in thing:
        return False
    near = village.near()
    reached = {other: True}
    ahead = [other]
    while ahead:
        ahead = [far for place in ahead for far in near[place] if far in thing and far not in reached]
        for far in ahead:
            reached[far] = True
    return len(reached) == len(thing)


def sum_of_lot(village, letters, caps, lot, pair):
    """The sum of a lot for the path of a pair: its letters, and the caps of the paths that lead out of it further."""
    held = path_between(pair[0], pair[1])
    if len(lot) == 0:
        return caps[held]
    total = sum([letters[place] for place in lot])
    for one, other in village.paths():
        if (one in lot) != (other in lot) and (one, other) != held:
            total += caps[(one, other)]
    return total


def is_holding(village, letters, caps, house, other, number, thing):
    """Tells of any object whether it is a lot for the path from house to other with a sum below number."""
    ask_holding(village, letters, caps, house, other, number)
    pair = (house, other)
    return is_lot_for(village, thing, pair) and sum_of_lot(village, letters, caps, thing, pair) < number


def caps_paper(village, letters, caps):
    """The triple of the first pair of houses with letters on both sides that nothing passes, and a lot; else None."""
    ask_capped(village, letters, caps)
    return first_held(village, letters, caps, {path: 0 for path in village.paths()})


def first_held(village, letters, caps, least):
    """The triple of the first pair of houses between which less is let through than asked, and a lot; else None.

    Asked is what least tells, and 1 where letters are on both sides.
    """
    parting = parting_paths(village, letters)
    asked = {path: max(least[path], 1) if path in parting else least[path] for path in village.paths()}
    near = village.near()
    for house in village.houses():
        for other in near[house]:
            lot = lot_below(village, letters, caps, (house, other), asked[path_between(house, other)])
            if lot is not None:
                return house, other, lot
    return None
