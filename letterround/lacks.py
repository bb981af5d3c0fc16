"""Letters not known: which ones a ledger can be a round's with, and how many there are."""

from math import comb

from letterround.errors import BadNumber
from letterround.kinds import is_number
from letterround.letters import is_letters
from letterround.rounds import ask_ledger
from letterround.therule import can_be
from letterround.villages import path_between


def lacks(village, ledger):
    """The dict from all houses to what their greatest path is gone more often than all others together."""
    ask_ledger(village, ledger)
    near = village.near()
    told = {}
    for house in village.houses():
        gone = [ledger[path_between(house, other)] for other in near[house]]
        told[house] = max(0, 2 * max(gone, default=0) - sum(gone))
    return told


def gone_apart(village, ledger):
    """The first pair of gone paths with one not gone between, None if all gone paths hang together."""
    ask_ledger(village, ledger)
    gone = [path for path in village.paths() if ledger[path] > 0]
    if len(gone) == 0:
        return None
    # If they do not hang together the first one of all is apart from some other one.
    near = village.near()
    reached = {gone[0][0]: True}
    ahead = [gone[0][0]]
    while ahead:
        told = [(house, far) for house in ahead for far in near[house] if ledger[path_between(house, far)] > 0]
        ahead = [far for house, far in told if far not in reached]
        for far in ahead:
            reached[far] = True
    for path in gone:
        if path[0] not in reached:
            return gone[0], path
    return None


def can_get(village, ledger, thing):
    """Tells of any object whether it is letters of which the ledger is some round's."""
    ask_ledger(village, ledger)
    return is_letters(village, thing) and can_be(village, thing, ledger)


def least_letters(village, ledger):
    """Of all letters of which the ledger is some round's those that get nowhere more than others; else None."""
    if gone_apart(village, ledger) is not None:
        return None
    if is_still(ledger):
        first = village.houses()[0]
        return {house: 1 if house == first else 0 for house in village.houses()}
    return lacks(village, ledger)


def is_still(ledger):
    """Tells whether no path is gone."""
    return not any([number > 0 for number in ledger.values()])


def count_letters(village, ledger, many):
    """How many letters, so many in all, there are of which the ledger is some round's."""
    ask_ledger(village, ledger)
    if not is_number(many):
        raise BadNumber(many)
    if gone_apart(village, ledger) is not None:
        return 0
    if is_still(ledger):
        return len(village) if many > 0 else 0
    near = village.near()
    touched = 0
    for house in village.houses():
        if any([ledger[path_between(house, other)] > 0 for other in near[house]]):
            touched += 1
    left = many - sum(lacks(village, ledger).values())
    return comb(left + touched - 1, touched - 1) if left >= 0 else 0
