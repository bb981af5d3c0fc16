"""Tellers: who says how many letters a house gets, or how often a path is gone, and who of them lie."""

from itertools import combinations

from letterround.errors import BadTellers
from letterround.kinds import is_listed, is_number, is_pair
from letterround.letterboxes import letterbox_paper
from letterround.villages import is_house, path_between


def is_teller(village, thing):
    """Tells of any object whether it is a pair of a house, or a path, and a number."""
    if not is_pair(thing) or not is_number(thing[1]):
        return False
    told = thing[0]
    if is_house(village, told):
        return True
    if not is_pair(told) or not all([is_house(village, house) for house in told]):
        return False
    return told[1] in village.near()[told[0]]


def told_by(village, tellers):
    """The list of the pairs of a house, or a path as it is told, and a number; it raises BadTellers."""
    if not is_listed(tellers):
        raise BadTellers(0)
    told = []
    for index, thing in enumerate(tellers):
        if not is_teller(village, thing):
            raise BadTellers(index)
        of, number = thing
        told.append((of if isinstance(of, str) else path_between(of[0], of[1]), number))
    return told


def all_can(village, told):
    """Tells whether some letters and a ledger of a round with them are as all of these pairs tell."""
    numbers = {}
    for of, number in told:
        if numbers.get(of, number) != number:
            return False
        numbers[of] = number
    # What nobody tells needs never more than the greatest number told, or one.
    most = max([number for of, number in told], default=0) + 1
    spans = []
    for keys in (village.houses(), village.paths()):
        spans.append({key: (numbers[key], numbers[key]) if key in numbers else (0, most) for key in keys})
    return letterbox_paper(village, spans) is None


def can_be_right(village, tellers):
    """Tells whether some letters and a ledger of a round with them are as all tellers tell."""
    return all_can(village, told_by(village, tellers))


def teller_clash(village, tellers):
    """The first of the shortest lists of indexes of tellers that cannot be right together, None if all can."""
    told = told_by(village, tellers)
    if all_can(village, told):
        return None
    places = list(range(len(told)))
    for size in range(1, len(told) + 1):
        for indexes in combinations(places, size):
            if not all_can(village, [told[index] for index in indexes]):
                return list(indexes)
    return None


def fewest_liars(village, tellers):
    """The ascending list of all shortest lists of indexes of tellers without which all others can be right."""
    told = told_by(village, tellers)
    places = list(range(len(told)))
    found = []
    for size in range(len(told) + 1):
        for indexes in combinations(places, size):
            if all_can(village, [told[index] for index in places if index not in indexes]):
                found.append(list(indexes))
        if found:
            return found
    return found
