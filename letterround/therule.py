"""The rule for rounds: which ledgers are some round's, and papers against the others."""

from letterround.kinds import is_listed
from letterround.letters import all_beyond, ask_letters, letters_of, round_flaw
from letterround.rounds import ask_ledger, ledger_of
from letterround.villages import path_between


def ask_both(village, letters, ledger):
    """Raises BadLetters for what are no letters, BadLedger for what is no ledger."""
    ask_letters(village, letters)
    ask_ledger(village, ledger)


def parting_paths(village, letters):
    """The ascending list of the paths with letters on each side."""
    ask_letters(village, letters)
    further = all_beyond(village, letters)
    return [(one, other) for one, other in village.paths() if further[(one, other)] > 0 and further[(other, one)] > 0]


def spare(village, letters, ledger):
    """The dict from all pairs (house, one beside it) to what else is there more than the path between."""
    ask_both(village, letters, ledger)
    near = village.near()
    told = {}
    for house in village.houses():
        gone = {other: ledger[path_between(house, other)] for other in near[house]}
        total = sum(gone.values()) + letters[house]
        for other in near[house]:
            told[(house, other)] = total - 2 * gone[other]
    return told


def papers(village, letters, ledger):
    """The list of all papers against a ledger, first those with still, then idle, then much."""
    left_over = spare(village, letters, ledger)
    parting = parting_paths(village, letters)
    still = [("still", *path) for path in parting if ledger[path] == 0]
    idle = [("idle", *path) for path in village.paths() if path not in parting and ledger[path] > 0]
    much = [("much", *pair) for pair in left_over if left_over[pair] < 0]
    return still + idle + much


def can_be(village, letters, ledger):
    """Tells whether a ledger is some round's with these letters."""
    return paper_of(village, letters, ledger) is None


def paper_of(village, letters, ledger):
    """The first paper against a ledger, None if there is none."""
    found = papers(village, letters, ledger)
    return found[0] if found else None


def is_paper(village, letters, ledger, thing):
    """Tells of any object whether it is a paper against a ledger."""
    found = papers(village, letters, ledger)
    return is_listed(thing) and tuple(thing) in found


def round_fault(village, letters, ledger, thing):
    """What keeps any object from being a round with these letters and this ledger, None if nothing does."""
    ask_both(village, letters, ledger)
    index = round_flaw(village, thing)
    if index is not None:
        return "round", index
    brought = letters_of(village, thing)
    for house in village.houses():
        if brought[house] != letters[house]:
            return "letters", house
    gone = ledger_of(village, thing)
    for path in village.paths():
        if gone[path] != ledger[path]:
            return ("path", *path)
    return None
