"""Rounds of a lot made one, and cut into more."""

from letterround.errors import BadIndex
from letterround.kinds import is_number
from letterround.letters import letters_of
from letterround.rounds import ledger_of
from letterround.roundlots import ask_lot, greatest_lot, made_one


def ask_index(lot, thing):
    """Raises BadIndex for what is no index of a lot."""
    if not is_number(thing) or thing >= len(lot):
        raise BadIndex(thing)


def lot_joined(village, lot, first, second):
    """The lot in which two rounds are one, in the place of the earlier one, None if their walks do not meet."""
    ask_lot(village, lot)
    ask_index(lot, first)
    ask_index(lot, second)
    if first == second:
        raise BadIndex(second)
    row = made_one(village, lot[first], lot[second])
    if row is None:
        return None
    told = [row if index == min(first, second) else list(lot[index]) for index in range(len(lot))]
    del told[max(first, second)]
    return told


def lot_cut(village, lot, index):
    """The lot with as many rounds as can be in the place of one, by the same ledger; itself if that is one alone."""
    ask_lot(village, lot)
    ask_index(lot, index)
    row = lot[index]
    pieces = greatest_lot(village, letters_of(village, row), ledger_of(village, row))
    if len(pieces) == 1:
        pieces = [row]
    return [list(piece) for piece in [*lot[:index], *pieces, *lot[index + 1:]]]
