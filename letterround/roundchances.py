"""Chances: of a round with some letters, or with these and a ledger, of which each is drawn as likely."""

from math import comb

from letterround.counting import count_orders, count_rounds, first_table
from letterround.errors import BadGiven, LostNow
from letterround.goingon import lost_at, next_of
from letterround.greatest import greatest_ledger, least_ledger
from letterround.hours import ask_some_round
from letterround.kinds import is_number
from letterround.lengths import ask_lengths
from letterround.letters import all_beyond, ask_letters
from letterround.lowest import added, lowest
from letterround.numbercounts import count_with_numbers
from letterround.numbering import round_at
from letterround.standing import standing_of
from letterround.ways import ask_path


def drawn_round(village, letters, ledger, chooser):
    """The round with the number that a chooser tells of how many have these letters and this ledger."""
    ask_some_round(village, letters, ledger)
    number = chooser(count_rounds(village, letters, ledger))
    return round_at(village, letters, ledger, number)


def path_chances(village, letters, one, other):
    """The dict from how often a path can be gone by a round with these letters to the chances."""
    ask_letters(village, letters)
    ask_path(village, one, other)
    further = all_beyond(village, letters)
    here = further[(other, one)]
    there = further[(one, other)]
    if here == 0 or there == 0:
        return {0: (1, 1)}
    many = here + there
    under = here * there * comb(many, here)
    told = {}
    for times in range(1, min(here, there) + 1):
        told[times] = lowest(times * many * comb(here, times) * comb(there, times), under)
    return told


def mean_passes(village, letters):
    """The dict from all paths to the mean number of times that a round with these letters goes them."""
    ask_letters(village, letters)
    further = all_beyond(village, letters)
    # One letter alone is never parted: whatever stands under 0 is right.
    under = max(1, sum(letters.values()) - 1)
    told = {}
    for one, other in village.paths():
        told[(one, other)] = lowest(further[(one, other)] * further[(other, one)], under)
    return told


def ledger_chance(village, letters, ledger):
    """The chance that a round with these letters has a ledger."""
    many = count_rounds(village, letters, ledger)
    return lowest(many, count_orders(village, letters))


def is_given(village, thing):
    """Tells of any object whether it is a dict from some of the paths, perhaps none, to numbers."""
    if not isinstance(thing, dict):
        return False
    paths = village.paths()
    return all([path in paths and is_number(thing[path]) for path in thing])


def some_chance(village, letters, some):
    """The chance that a round with these letters goes some paths so often."""
    ask_letters(village, letters)
    if not is_given(village, some):
        raise BadGiven(some)
    return lowest(count_with_numbers(village, letters, some), count_orders(village, letters))


def mean_walk(village, letters, lengths):
    """The mean length of all that the postman goes on a round with these letters."""
    ask_letters(village, letters)
    ask_lengths(village, lengths)
    passes = mean_passes(village, letters)
    return added([lowest(2 * lengths[path] * passes[path][0], passes[path][1]) for path in passes])


def walk_chance(village, letters, lengths):
    """The pair of the chances that a round with these letters is as short, and that it is as long, as any."""
    ask_letters(village, letters)
    ask_lengths(village, lengths)
    told = []
    for ledger in (least_ledger(village, letters), greatest_ledger(village, letters)):
        # What is of no length may be gone ever so often.
        given = {path: ledger[path] for path in ledger if lengths[path] > 0}
        told.append(lowest(count_with_numbers(village, letters, given), count_orders(village, letters)))
    return told[0], told[1]


def first_chances(village, letters, ledger):
    """The dict from the houses that can have the first letter of a round with this ledger to their chances."""
    ask_some_round(village, letters, ledger)
    table = first_table(village, letters, ledger)
    many = sum(table.values())
    return {house: lowest(table[house], many) for house in table}


def next_chances(village, letters, ledger, begun):
    """The dict from the houses with which what is begun can go on to their chances, {} if it is a round."""
    ask_some_round(village, letters, ledger)
    if lost_at(village, letters, ledger, begun) is not None:
        raise LostNow()
    if len(begun) == 0:
        return first_chances(village, letters, ledger)
    standing = standing_of(village, letters, ledger, begun)
    many = standing.count_ends()
    return {house: lowest(standing.behind(house).count_ends(), many) for house in next_of(standing)}
