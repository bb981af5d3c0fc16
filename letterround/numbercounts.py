"""Rounds with some letters counted whose ledger has, on each path, one of some numbers.

Rows of signs of which no two of one path stand side by side are counted by blocks of one path's signs, with a minus
for each that a block has more than one: so it is enough to know, of all that is beyond a path, a worth of each number
of blocks, whatever the path's own number is.
"""

from math import comb

from letterround.greatest import greatest_ledger, least_ledger
from letterround.villages import path_between
from letterround.ways import pairs_behind_further


def count_with_numbers(village, letters, given):
    """How many rounds with these letters have a ledger with the numbers that are given for some paths."""
    numbers = numbers_given(village, letters, given)
    near = village.near()
    blocks = {}
    for house, other in pairs_behind_further(village):
        further = [blocks[(other, third)] for third in near[other] if third != house]
        ways = merged_blocks(further)
        told = {}
        for number in numbers[path_between(house, other)]:
            told[number] = framed_ways(ways, number, letters[other]) if number > 0 else ways[0]
        blocks[(house, other)] = worth_of_blocks(told)
    many = 0
    for house in village.houses():
        if letters[house] > 0:
            many += free_ways(merged_blocks([blocks[(house, other)] for other in near[house]]), letters[house] - 1)
    return many


def numbers_given(village, letters, given):
    """The dict from all paths to the lists of the numbers that they can have, those given alone where they are."""
    greatest = greatest_ledger(village, letters)
    least = least_ledger(village, letters)
    told = {path: list(range(least[path], greatest[path] + 1)) for path in village.paths()}
    for path in given:
        told[path] = [number for number in told[path] if number == given[path]]
    return told


def worth_of_blocks(ways):
    """The list of what 0, 1, 2, .. blocks of a path's signs are worth, ways being a dict from its numbers."""
    told = [0] * (max(ways, default=0) + 1)
    for number in ways:
        for size in range(min(1, number), number + 1):
            worth = comb(number - 1, size - 1) * ways[number] if number > 0 else ways[number]
            told[size] += -worth if (number - size) % 2 == 1 else worth
    return told


def merged_blocks(rows):
    """The list of what 0, 1, 2, .. blocks of several paths in a row are worth, rows being the lists of each."""
    told = [1]
    for row in rows:
        longer = [0] * (len(told) + len(row) - 1)
        for size, worth in enumerate(told):
            for more, times in enumerate(row):
                longer[size + more] += worth * times * comb(size + more, more)
        told = longer
    return told


def free_ways(blocks, free):
    """In how many rows blocks stand among so many free signs."""
    return sum([worth * comb(size + free, free) for size, worth in enumerate(blocks)])


def framed_ways(blocks, number, free):
    """In how many rows that begin with one path's sign, which has a number, and do not end with it, all others stand.

    The one sign more behind, at the ring's end, is in another block than the first one.
    """
    told = 0
    for inner in range(number):
        worth = comb(number, inner + 1)
        if (number - inner) % 2 == 0:
            worth = -worth
        told += worth * sum([times * comb(size + inner, inner) * comb(size + inner + free, free)
                             for size, times in enumerate(blocks)])
    return told
