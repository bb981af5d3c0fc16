"""The rounds with some letters and a ledger in order: by number, the next one, those begun so."""

from letterround.counting import count_rounds
from letterround.errors import BadNumber
from letterround.goingon import next_of
from letterround.kinds import is_number
from letterround.letters import letters_of
from letterround.rounds import ledger_of
from letterround.standing import standing_at_first, standing_of


def round_at(village, letters, ledger, number):
    """The round with a number."""
    many = count_rounds(village, letters, ledger)
    if not is_number(number) or number >= many:
        raise BadNumber(number)
    standing = standing_at_first(village, letters, ledger)
    row = []
    ahead = number
    while standing.houses_left():
        for house in standing.houses_left():
            ways = standing.behind(house).count_ends()
            if ahead < ways:
                break
            ahead = ahead - ways
        row.append(house)
        standing.bring(house)
    return row


def round_number(village, row):
    """The number of a round among those with its letters and its ledger."""
    standing = standing_at_first(village, letters_of(village, row), ledger_of(village, row))
    number = 0
    for house in row:
        for other in standing.houses_left():
            if other < house:
                number += standing.behind(other).count_ends()
        standing.bring(house)
    return number


def next_round(village, row):
    """The round with the next number, None behind the last one."""
    standings = [standing_at_first(village, letters_of(village, row), ledger_of(village, row))]
    for house in row:
        standings.append(standings[-1].behind(house))
    for index in range(len(row) - 1, -1, -1):
        greater = [house for house in next_of(standings[index]) if house > row[index]]
        if greater:
            return least_going_on(standings[index], [*row[:index], greater[0]])
    return None


def least_going_on(standing, begun):
    """The first round that begins so, standing being that ahead of the last house begun."""
    row = list(begun)
    further = standing.behind(row[-1])
    while further.houses_left():
        row.append(next_of(further)[0])
        further.bring(row[-1])
    return row


def count_begun(village, letters, ledger, begun):
    """How many rounds with these begin with what is begun."""
    standing = standing_of(village, letters, ledger, begun)
    if len(begun) == 0:
        return count_rounds(village, letters, ledger)
    return standing.count_ends()
