"""Carried ledgers by their sums: by paces, and by tolls."""

from letterround.errors import BadNumber, BadTolls
from letterround.greatest import greatest_ledger, least_ledger
from letterround.kinds import has_just, is_integer, is_listed, is_number
from letterround.letters import ask_letters
from letterround.villages import path_between
from letterround.ways import rooted


def count_by_paces(village, letters):
    """The dict from all numbers of paces of carried ledgers to how many have it."""
    ask_letters(village, letters)
    found = by_sums(village, letters, carried_numbers(village, letters), pace_costs(village, letters), False)
    return {paces: found[paces][0] for paces in sorted(found)}


def ledger_with(village, letters, paces):
    """A carried ledger with so many paces, None if there is none."""
    ask_letters(village, letters)
    if not is_number(paces):
        raise BadNumber(paces)
    found = by_sums(village, letters, carried_numbers(village, letters), pace_costs(village, letters), False)
    return told_ledger(village, found[paces][1]) if paces in found else None


def ask_tolls(village, letters, tolls):
    """Raises BadLetters, then BadTolls for what is no dict from just all paths to lists of integers, long enough."""
    greatest = greatest_ledger(village, letters)
    if not has_just(tolls, village.paths()):
        raise BadTolls(tolls)
    for path in village.paths():
        row = tolls[path]
        if not is_listed(row) or len(row) < greatest[path] or not all([is_integer(toll) for toll in row]):
            raise BadTolls(tolls)


def dearest(village, letters, tolls):
    """The pair of the greatest sum of tolls of a carried ledger, and one that has it."""
    return best_by_tolls(village, letters, tolls, 1)


def cheapest(village, letters, tolls):
    """The pair of the least sum of tolls of a carried ledger, and one that has it."""
    total, ledger = best_by_tolls(village, letters, tolls, -1)
    return -total, ledger


def best_by_tolls(village, letters, tolls, worth):
    """The pair of the greatest sum of tolls, each times worth, of a carried ledger, and one that has it."""
    ask_tolls(village, letters, tolls)
    greatest = greatest_ledger(village, letters)
    costs = {path: [0] for path in village.paths()}
    for path in village.paths():
        for toll in tolls[path][:greatest[path]]:
            costs[path].append(costs[path][-1] + worth * toll)
    found = by_sums(village, letters, carried_numbers(village, letters), costs, True)
    total = max(found)
    return total, told_ledger(village, found[total][1])


def pace_costs(village, letters):
    """The dict from all paths to the lists of how many paces 0, 1, .. times there and back are."""
    greatest = greatest_ledger(village, letters)
    return {path: [2 * number for number in range(greatest[path] + 1)] for path in village.paths()}


def carried_numbers(village, letters):
    """The dict from all paths to the lists of the numbers from the least ledger's to the greatest one's."""
    greatest = greatest_ledger(village, letters)
    least = least_ledger(village, letters)
    return {path: list(range(least[path], greatest[path] + 1)) for path in village.paths()}


def told_ledger(village, pairs):
    """The ledger of pairs (path, number)."""
    numbers = {path: number for path, number in pairs}
    return {path: numbers[path] for path in village.paths()}


def by_sums(village, own, numbers, costs, best):
    """The dict from sums of costs to pairs: how many ledgers with these numbers have it, the pairs of one that has.

    No path of a ledger is more than the others of a house and the house's own, together. If best is true only the
    greatest sum is kept, and how many have it is not told.
    """
    below = {house: [] for house in village.houses()}
    found = {}
    for house, back in reversed(rooted(village, village.houses()[0])):
        states = states_of(below[house], best)
        if back is None:
            found = sums_behind(states, own[house], 0, best)
        else:
            path = path_between(house, back)
            tables = {}
            for number in numbers[path]:
                behind = sums_behind(states, own[house], number, best)
                tables[number] = with_cost(behind, path, number, costs[path][number])
            below[back].append(tables)
    return found


def states_of(below, best):
    """The dict from pairs (sum, greatest) of the numbers of a house's further paths to the sums behind these."""
    states = {(0, 0): {0: (1, ())}}
    for tables in below:
        further = {}
        for (total, most), found in states.items():
            for number, behind in tables.items():
                state = (total + number, max(most, number))
                if state not in further:
                    further[state] = {}
                add_sums(further[state], paired_sums(found, behind))
        states = {state: kept_sums(further[state], best) for state in further}
    return states


def paired_sums(one, other):
    """The sums of both, added."""
    told = {}
    for first, (many, pairs) in one.items():
        for second, (times, more) in other.items():
            add_sums(told, {first + second: (many * times, pairs + more)})
    return told


def add_sums(kept, more):
    """Adds more sums to those that are kept; of each sum the ledger that came first stays."""
    for total in more:
        many, pairs = more[total]
        if total in kept:
            kept[total] = (kept[total][0] + many, kept[total][1])
        else:
            kept[total] = (many, pairs)


def kept_sums(found, best):
    """All sums, or the greatest one alone."""
    if best and found:
        return {max(found): found[max(found)]}
    return found


def sums_behind(states, own, number, best):
    """The sums behind a house with so much of its own, if the path towards the root is gone so often."""
    told = {}
    for (total, most), found in states.items():
        if most <= total - most + number + own and number <= total + own:
            add_sums(told, found)
    return kept_sums(told, best)


def with_cost(found, path, number, cost):
    """The sums with a path more, gone so often at such a cost."""
    return {total + cost: (many, (*pairs, (path, number))) for total, (many, pairs) in found.items()}
