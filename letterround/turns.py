"""Turns of rounds, and rings: rounds of which turns count as one."""

from math import gcd

from letterround.counting import count_rounds
from letterround.errors import BadRow
from letterround.kinds import is_listed, is_name
from letterround.therule import ask_both


def ask_row(row):
    """Raises BadRow for what is no list of one or more names."""
    if not is_listed(row) or len(row) == 0:
        raise BadRow(0)
    for index, house in enumerate(row):
        if not is_name(house):
            raise BadRow(index)


def turns_of(row):
    """The ascending list of all unlike turns of a list of houses."""
    ask_row(row)
    turned = sorted([[*row[start:], *row[:start]] for start in range(len(row))])
    return [turn for index, turn in enumerate(turned) if index == 0 or turn != turned[index - 1]]


def count_rings(village, letters, ledger):
    """How many rounds there are with these if turns count as one."""
    ask_both(village, letters, ledger)
    many = sum(letters.values())
    common = many
    for number in list(letters.values()) + list(ledger.values()):
        common = gcd(common, number)
    kept = 0
    for times in range(1, common + 1):
        if common % times == 0:
            piece = {house: letters[house] // times for house in letters}
            gone = {path: ledger[path] // times for path in ledger}
            kept = kept + prime_to(times) * count_rounds(village, piece, gone)
    # There are as many turns as letters; how many rounds each of them leaves as they are, added up,
    # counts each ring once for each turn.
    return kept // many


def prime_to(times):
    """How many of the numbers from 1 to times have no divisor but 1 together with it."""
    return len([number for number in range(1, times + 1) if gcd(number, times) == 1])
