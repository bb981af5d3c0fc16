"""Caps: the greatest right ledger beneath them, what is let through by a path, and what holds it."""

from letterround.errors import BadCaps, NotPossible
from letterround.kinds import is_table
from letterround.letters import ask_letters
from letterround.therule import parting_paths
from letterround.villages import path_between
from letterround.ways import ask_path, pairs_behind_further


def ask_capped(village, letters, caps):
    """Raises BadLetters for what are no letters, BadCaps for what is no dict from just all paths to numbers."""
    ask_letters(village, letters)
    if not is_table(caps, village.paths()):
        raise BadCaps(caps)


def all_let(village, letters, caps):
    """The dict from all pairs (house, one beside it) to what is let through between them, seen from house."""
    near = village.near()
    let = {}
    for house, other in pairs_behind_further(village):
        inner = letters[other] + sum([let[(other, third)] for third in near[other] if third != house])
        let[(house, other)] = min(caps[path_between(house, other)], inner)
    return let


def greatest_right(village, letters, caps):
    """The greatest right ledger beneath caps, None if there is none."""
    let = all_let(village, letters, caps)
    told = {(one, other): min(let[(one, other)], let[(other, one)]) for one, other in village.paths()}
    if any([told[path] == 0 for path in parting_paths(village, letters)]):
        return None
    return told


def greatest_beneath(village, letters, caps):
    """The right ledger beneath caps that has on each path as much as any has there, None if there is none."""
    ask_capped(village, letters, caps)
    return greatest_right(village, letters, caps)


def lets_through(village, letters, caps, house, other):
    """What is let through by the path from house to other: by its cap, and by all that lies beyond."""
    ask_capped(village, letters, caps)
    ask_path(village, house, other)
    return all_let(village, letters, caps)[(house, other)]


def holders(village, letters, caps, house, other):
    """The pair of the lists of the paths, of the houses, of which one more alone lets the path have one more."""
    ask_capped(village, letters, caps)
    greatest = greatest_right(village, letters, caps)
    if greatest is None:
        raise NotPossible()
    ask_path(village, house, other)
    held = path_between(house, other)
    paths = []
    for path in village.paths():
        raised = greatest_right(village, letters, one_more_at(caps, path))
        if raised is not None and raised[held] > greatest[held]:
            paths.append(path)
    houses = []
    for place in village.houses():
        raised = greatest_right(village, one_more_at(letters, place), caps)
        if raised is not None and raised[held] > greatest[held]:
            houses.append(place)
    return paths, houses


def one_more_at(table, key):
    """A table of numbers with one more at a key."""
    return {other: table[other] + 1 if other == key else table[other] for other in table}
