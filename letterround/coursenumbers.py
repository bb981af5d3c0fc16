"""How often paths can be gone by courses from a first house to a last one."""

from letterround.courses import ask_ends, weights
from letterround.letters import all_beyond, ask_letters
from letterround.therule import parting_paths
from letterround.tolls import by_sums
from letterround.ways import paths_on_way


def most_passes(village, letters, first, last):
    """The passes of which no course from first to last has more anywhere."""
    further = all_beyond(village, weights(village, letters, first, last))
    return {(one, other): min(further[(one, other)], further[(other, one)]) for one, other in village.paths()}


def least_passes(village, letters, first, last):
    """The passes of which no course from first to last has less anywhere."""
    ask_letters(village, letters)
    ask_ends(village, letters, first, last)
    live = parting_paths(village, letters)
    told = {path: 2 if path in live else 0 for path in village.paths()}
    for path in paths_on_way(village, first, last):
        told[path] = 1
    return told


def course_paces(village, letters, first, last):
    """The ascending list of the sums of passes that courses from first to last have."""
    weighed = weights(village, letters, first, last)
    most = most_passes(village, letters, first, last)
    least = least_passes(village, letters, first, last)
    numbers = {path: list(range(least[path], most[path] + 1, 2)) for path in village.paths()}
    costs = {path: list(range(most[path] + 1)) for path in village.paths()}
    return sorted(by_sums(village, weighed, numbers, costs, False))
