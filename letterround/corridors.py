"""Corridors: parts of a greater village between two bare paths, and what they let these have."""

from letterround.branches import ask_inner, pairs_towards, put_together, told_boxes
from letterround.errors import BadBoxes, BadSpread
from letterround.kinds import OwnThing, ask_from_one, is_integer, is_pair
from letterround.villages import ask_house
from letterround.ways import paths_on_way, way


class Corridor(OwnThing):
    """A part of a greater village: bare paths at first and last lead to what is around; it never changes."""

    def __init__(self, village, first, last, letters, boxes):
        ask_house(village, first)
        ask_house(village, last)
        ask_inner(village, letters, boxes)
        self._village = village
        self._first = first
        self._last = last
        self._letters = {house: letters[house] for house in village.houses()}
        self._boxes = told_boxes(village, boxes)
        if any([self._boxes[path] != (0, None) for path in paths_on_way(village, first, last)]):
            raise BadBoxes(boxes)

    def village(self):
        """The village of the corridor's houses."""
        return self._village

    def first(self):
        """The house with the one bare path."""
        return self._first

    def last(self):
        """The house with the other bare path."""
        return self._last

    def letters(self):
        """The dict from all houses to how many letters they get, perhaps all 0."""
        return dict(self._letters)

    def boxes(self):
        """The dict from all paths to pairs (least, most), most None where nothing bounds."""
        return {path: self._boxes[path] for path in self._boxes}

    def __eq__(self, other):
        if not isinstance(other, Corridor):
            return False
        return (self._village == other._village and self._first == other._first and self._last == other._last
                and self._letters == other._letters and self._boxes == other._boxes)


def bare_spread(corridor):
    """The pair of the least sum and the greatest difference of both bare paths' numbers, None if none are let."""
    village = corridor.village()
    letters = corridor.letters()
    row = way(village, corridor.first(), corridor.last())
    let = pairs_towards(village, letters, corridor.boxes(), row)
    spread = (2, 0)
    for house in row:
        pairs = [let[(house, other)] for other in village.near()[house] if other not in row]
        pair = put_together(letters[house], pairs)
        if pair is None:
            return None
        spread = one_behind(spread, (max(2, pair[0]), pair[1]))
    return spread


def one_behind(one, other):
    """The spread of two corridors, one behind the other, by theirs."""
    return max(2, one[0] - other[1], other[0] - one[1]), one[1] + other[1]


def corridor_lets(corridor, number, other):
    """Tells whether the bare path at first may be gone number times and that at last other times."""
    ask_from_one(number)
    ask_from_one(other)
    spread = bare_spread(corridor)
    return spread is not None and number + other >= spread[0] and abs(number - other) <= spread[1]


def ask_spread(thing):
    """Raises BadSpread for what is no pair (sum, difference) of a corridor's."""
    if not is_pair(thing) or not all([is_integer(number) for number in thing]):
        raise BadSpread(thing)
    total, difference = thing
    if difference < 0 or total < 2 or (total > 2 and total > difference):
        raise BadSpread(thing)


def spread_behind(one, other):
    """The spread of two corridors, one behind the other, by their spreads."""
    ask_spread(one)
    ask_spread(other)
    return one_behind(one, other)
