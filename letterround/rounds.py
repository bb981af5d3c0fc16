"""Rounds: the postman's walk, its ledger, and what it is seen as from a house."""

from letterround.errors import BadLedger
from letterround.kinds import is_table
from letterround.letters import ask_letters, ask_round, letters_of, round_flaw
from letterround.villages import ask_house, path_between
from letterround.ways import signs_from, steps_towards


def is_round(village, letters, thing):
    """Tells of any object whether it is a round with just these letters."""
    ask_letters(village, letters)
    return round_flaw(village, thing) is None and has_letters(village, letters, thing)


def has_letters(village, letters, row):
    """Tells whether a round has just these letters."""
    brought = letters_of(village, row)
    return all([brought[house] == letters[house] for house in brought])


def walked(village, row):
    """All houses that are come to from the first one of a row to its last."""
    towards = {}
    steps = [row[0]]
    for house in row:
        if house not in towards:
            towards[house] = steps_towards(village, house)
        while steps[-1] != house:
            steps.append(towards[house][steps[-1]])
    return steps


def times_gone(village, steps):
    """The dict from all paths to the lists of how often a walk goes it there, and back."""
    gone = {path: [0, 0] for path in village.paths()}
    for start, house in zip(steps, steps[1:]):
        gone[path_between(start, house)][0 if start < house else 1] += 1
    return gone


def walk_of(village, row):
    """The list of all houses that the postman comes to, back to the first letter's."""
    ask_round(village, row)
    return walked(village, [*row, row[0]])


def ledger_of(village, row):
    """How often a round goes each path from its first house to its second."""
    gone = times_gone(village, walk_of(village, row))
    return {path: gone[path][0] for path in gone}


def is_ledger(village, thing):
    """Tells of any object whether it is a ledger of the village."""
    return is_table(thing, village.paths())


def ask_ledger(village, ledger):
    """Raises BadLedger for what is no ledger of the village."""
    if not is_ledger(village, ledger):
        raise BadLedger(ledger)


def signs_at(village, row, house):
    """The tuple of what a round is seen as from a house, as a ring."""
    ask_round(village, row)
    ask_house(village, house)
    seen = signs_from(village, house)
    signs = []
    for place in row:
        sign = seen[place]
        if sign == house or signs[-1:] != [sign]:
            signs.append(sign)
    if len(signs) > 1 and signs[-1] == signs[0] and signs[0] != house:
        return tuple(signs[:-1])
    return tuple(signs)
