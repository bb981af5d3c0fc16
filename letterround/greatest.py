"""The greatest and the least ledger that rounds with some letters have, and wide rounds."""

from letterround.letters import all_beyond, ask_letters
from letterround.rounds import is_round, ledger_of
from letterround.therule import parting_paths


def greatest_ledger(village, letters):
    """The ledger with the lesser of the letters on both sides of each path."""
    ask_letters(village, letters)
    further = all_beyond(village, letters)
    return {(one, other): min(further[(one, other)], further[(other, one)]) for one, other in village.paths()}


def least_ledger(village, letters):
    """The ledger with 1 at each live path, 0 at others."""
    parting = parting_paths(village, letters)
    return {path: 1 if path in parting else 0 for path in village.paths()}


def is_wide(village, letters, thing):
    """Tells of any object whether it is a round of just these letters with the greatest ledger."""
    if not is_round(village, letters, thing):
        return False
    gone = ledger_of(village, thing)
    greatest = greatest_ledger(village, letters)
    return all([gone[path] == greatest[path] for path in gone])
