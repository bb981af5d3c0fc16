"""Letters: how many each house gets, and on which side of a path."""

from letterround.errors import BadLetters, BadRound
from letterround.kinds import is_listed, is_table
from letterround.villages import is_house
from letterround.ways import beyond, rooted


def is_letters(village, thing):
    """Tells of any object whether it is letters of the village."""
    return is_table(thing, village.houses()) and any([number > 0 for number in thing.values()])


def ask_letters(village, letters):
    """Raises BadLetters for what are no letters of the village."""
    if not is_letters(village, letters):
        raise BadLetters(letters)


def letters_beyond(village, letters, house, other):
    """How many letters go to the houses beyond the path from house to other."""
    ask_letters(village, letters)
    return sum([letters[far] for far in beyond(village, house, other)])


def all_beyond(village, letters):
    """The dict from all pairs (house, one beside it) to how many letters go beyond."""
    order = rooted(village, village.houses()[0])
    behind = {house: letters[house] for house in village.houses()}
    for house, back in reversed(order[1:]):
        behind[back] += behind[house]
    total = sum(letters.values())
    told = {}
    for house, back in order[1:]:
        told[(back, house)] = behind[house]
        told[(house, back)] = total - behind[house]
    return told


def first_no_house(village, thing):
    """The index of the first thing that is no house, 0 for no list, None if all are."""
    if not is_listed(thing):
        return 0
    for index, house in enumerate(thing):
        if not is_house(village, house):
            return index
    return None


def round_flaw(village, thing):
    """The index with which thing is no round, None if it is one."""
    if is_listed(thing) and len(thing) == 0:
        return 0
    return first_no_house(village, thing)


def ask_round(village, row):
    """Raises BadRound for what is no round."""
    index = round_flaw(village, row)
    if index is not None:
        raise BadRound(index)


def letters_of(village, row):
    """The letters of a round."""
    ask_round(village, row)
    letters = {house: 0 for house in village.houses()}
    for house in row:
        letters[house] += 1
    return letters
