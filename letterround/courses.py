"""Courses: rows of letters from a first house to a last one, from which nobody goes back."""

from letterround.errors import BadIndex, BadPasses, NoEnd
from letterround.kinds import is_number, is_table
from letterround.letters import ask_letters, ask_round
from letterround.rounds import times_gone, walked
from letterround.villages import ask_house
from letterround.ways import paths_on_way


def passes_of(village, row):
    """How often a course goes each path, both ways together."""
    ask_round(village, row)
    gone = times_gone(village, walked(village, row))
    return {path: sum(gone[path]) for path in gone}


def is_passes(village, thing):
    """Tells of any object whether it is passes of the village."""
    return is_table(thing, village.paths())


def ask_passes(village, passes):
    """Raises BadPasses for what are no passes of the village."""
    if not is_passes(village, passes):
        raise BadPasses(passes)


def ends_fit(letters, first, last):
    """Tells whether a first and a last house fit the letters."""
    if first != last:
        return letters[first] > 0 and letters[last] > 0
    return letters[first] > 1 or (letters[first] == 1 and sum(letters.values()) == 1)


def ask_ends(village, letters, first, last):
    """Raises NoHouse for what are no houses, NoEnd for a first and a last house that do not fit the letters."""
    ask_house(village, first)
    ask_house(village, last)
    if letters[first] == 0:
        raise NoEnd(first)
    if not ends_fit(letters, first, last):
        raise NoEnd(last)


def weights(village, letters, first, last):
    """The dict from all houses to twice their letters, less 1 for being first, less 1 for being last."""
    ask_letters(village, letters)
    ask_ends(village, letters, first, last)
    told = {house: 2 * letters[house] for house in village.houses()}
    told[first] -= 1
    told[last] -= 1
    return told


def closed(village, passes, first, last):
    """The ledger of the rounds that courses with these passes make, gone back; None if that is not whole."""
    ask_passes(village, passes)
    gone = {path: passes[path] for path in village.paths()}
    for path in paths_on_way(village, first, last):
        gone[path] += 1
    if any([number % 2 == 1 for number in gone.values()]):
        return None
    return {path: gone[path] // 2 for path in gone}


def opened(village, row, index):
    """The pair of the course that a round is from the letter at index on, not gone back, and its passes."""
    ask_round(village, row)
    if not is_number(index) or index >= len(row):
        raise BadIndex(index)
    course = [*row[index:], *row[:index]]
    return course, passes_of(village, course)
