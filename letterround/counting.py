"""Rounds counted: with a ledger, from a first letter, and with whatever ledger."""

from math import comb

from letterround.errors import NoLetter, NoRound
from letterround.letters import ask_letters
from letterround.standing import standing_at_first
from letterround.therule import ask_both, can_be, paper_of
from letterround.villages import ask_house, path_between
from letterround.ways import rooted
from letterround.words import count_framed, count_words


def factor_of(village, letters, ledger, house, back):
    """The factor of a house whose way to the first one goes by back, of the first one itself if back is None."""
    near = village.near()[house]
    if back is None:
        return count_words([ledger[path_between(house, other)] for other in near], letters[house] - 1)
    if ledger[path_between(house, back)] == 0:
        return 1
    ahead = [back, *[other for other in near if other != back]]
    return count_framed([ledger[path_between(house, other)] for other in ahead], letters[house])


def factors(village, letters, ledger, first):
    """The dict from all houses to numbers whose product is how many rounds begin with house first."""
    paper = paper_of(village, letters, ledger)
    if paper is not None:
        raise NoRound(paper)
    ask_house(village, first)
    if letters[first] == 0:
        raise NoLetter(first)
    back = {house: towards for house, towards in rooted(village, first)}
    return {house: factor_of(village, letters, ledger, house, back[house]) for house in village.houses()}


def first_table(village, letters, ledger):
    """The dict from all first houses of rounds with these letters and this ledger to how many there are."""
    if not can_be(village, letters, ledger):
        return {}
    worth = {}
    for house in village.houses():
        for back in village.near()[house]:
            worth[(house, back)] = factor_of(village, letters, ledger, house, back)
        if letters[house] > 0:
            worth[(house, None)] = factor_of(village, letters, ledger, house, None)
    table = {}
    for first in village.houses():
        if letters[first] > 0:
            table[first] = product_of([worth[pair] for pair in rooted(village, first)])
    return table


def product_of(numbers):
    """The product of numbers."""
    told = 1
    for number in numbers:
        told = told * number
    return told


def count_rounds(village, letters, ledger):
    """How many rounds have these letters and this ledger."""
    return sum(first_table(village, letters, ledger).values())


def count_orders(village, letters):
    """How many rounds have these letters, whatever their ledger."""
    ask_letters(village, letters)
    orders = 1
    so_far = 0
    for house in village.houses():
        so_far = so_far + letters[house]
        orders = orders * comb(so_far, letters[house])
    return orders


def count_holding(village, letters, ledger, one, other):
    """How often, in all rounds with these, a letter for house other is right behind one for house one."""
    ask_both(village, letters, ledger)
    ask_house(village, one)
    ask_house(village, other)
    many = sum(letters.values())
    pair = [one] if many == 1 and one == other else [one, other]
    if any([pair.count(house) > letters[house] for house in pair]):
        return 0
    # Turned about, each place of a round is once its beginning: so it is enough to count those begun so.
    standing = standing_at_first(village, letters, ledger)
    for house in pair:
        standing.bring(house)
    return many * standing.count_ends()
