"""Boxes: right ledgers of which each path's number lies between a least and a most one."""

from letterround.caps import all_let, greatest_right
from letterround.errors import BadBox, NotPossible
from letterround.kinds import is_span_table
from letterround.letters import ask_letters
from letterround.lots import first_held
from letterround.therule import parting_paths
from letterround.villages import path_between
from letterround.ways import ask_path, pairs_behind_further


def ask_boxed(village, letters, box):
    """Raises BadLetters for what are no letters, BadBox for what is no dict from just all paths to pairs."""
    ask_letters(village, letters)
    if not is_span_table(box, village.paths()):
        raise BadBox(box)


def mosts_of(village, box):
    """The dict from all paths to the mosts of a box."""
    return {path: box[path][1] for path in village.paths()}


def greatest_in(village, letters, box):
    """The right ledger in a box that has on each path most, None if there is none."""
    ask_boxed(village, letters, box)
    greatest = greatest_right(village, letters, mosts_of(village, box))
    if greatest is None or any([greatest[path] < box[path][0] for path in greatest]):
        return None
    return greatest


def box_paper(village, letters, box):
    """The triple of the first pair of houses between which too little is let through, and a lot; else None."""
    ask_boxed(village, letters, box)
    return first_held(village, letters, mosts_of(village, box), {path: box[path][0] for path in village.paths()})


def all_asked(village, letters, box):
    """The dict from all pairs (house, one beside it) to what is asked of the path between by what is beyond."""
    let = all_let(village, letters, mosts_of(village, box))
    parting = parting_paths(village, letters)
    near = village.near()
    asked = {}
    for house, other in pairs_behind_further(village):
        further = [third for third in near[other] if third != house]
        room = letters[other] + sum([let[(other, third)] for third in further])
        path = path_between(house, other)
        told = [box[path][0], 1 if path in parting else 0]
        told.extend([asked[(other, third)] + let[(other, third)] - room for third in further])
        asked[(house, other)] = max(told)
    return asked


def all_numbers(village, letters, box):
    """The dict from all paths to pairs (least, most) of their numbers in right ledgers in a box; else NotPossible."""
    greatest = greatest_in(village, letters, box)
    if greatest is None:
        raise NotPossible()
    asked = all_asked(village, letters, box)
    return {path: (max(asked[path], asked[path[::-1]]), greatest[path]) for path in greatest}


def path_numbers(village, letters, box, house, other):
    """The pair (least, most) of the numbers that a path has in right ledgers in a box."""
    numbers = all_numbers(village, letters, box)
    ask_path(village, house, other)
    return numbers[path_between(house, other)]


def sure_paths(village, letters, box):
    """The ascending list of the paths that have one number alone in right ledgers in a box."""
    numbers = all_numbers(village, letters, box)
    return [path for path in numbers if numbers[path][0] == numbers[path][1]]
