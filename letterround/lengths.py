"""Lengths of paths: of rounds, of ways to one house, of longest and shortest rounds."""

from letterround.builtrounds import built_round
from letterround.errors import BadLengths, BadNumber
from letterround.greatest import greatest_ledger, least_ledger
from letterround.kinds import is_number, is_table
from letterround.letters import all_beyond, ask_letters
from letterround.rounds import ledger_of
from letterround.villages import ask_house, path_between
from letterround.ways import rooted


def ask_lengths(village, lengths):
    """Raises BadLengths for what is no dict from just all paths to numbers."""
    if not is_table(lengths, village.paths()):
        raise BadLengths(lengths)


def length_of(lengths, ledger):
    """The length of all that a round with a ledger goes, there and back."""
    return 2 * sum([lengths[path] * ledger[path] for path in ledger])


def walk_length(village, lengths, row):
    """The length of all that the postman goes, back to the first house, too."""
    ask_lengths(village, lengths)
    return length_of(lengths, ledger_of(village, row))


def gathering(village, letters, lengths, house):
    """The sum, over all letters, of the length of the way from each one's house to house."""
    ask_letters(village, letters)
    ask_lengths(village, lengths)
    ask_house(village, house)
    further = all_beyond(village, letters)
    told = 0
    for far, back in rooted(village, house)[1:]:
        told += further[(back, far)] * lengths[path_between(far, back)]
    return told


def middles(village, letters):
    """The ascending list of the houses beyond none of whose paths more than half of all letters lie."""
    ask_letters(village, letters)
    further = all_beyond(village, letters)
    total = sum(letters.values())
    near = village.near()
    return [
        house for house in village.houses()
        if all([2 * further[(house, other)] <= total for other in near[house]])
    ]


def longest_round(village, letters, lengths):
    """The pair of the length of a longest round of just these letters, and such a round."""
    ask_letters(village, letters)
    ask_lengths(village, lengths)
    greatest = greatest_ledger(village, letters)
    return length_of(lengths, greatest), built_round(village, letters, greatest)


def shortest_round(village, letters, lengths):
    """The pair of the length of a shortest round of just these letters, and such a round."""
    ask_letters(village, letters)
    ask_lengths(village, lengths)
    least = least_ledger(village, letters)
    return length_of(lengths, least), built_round(village, letters, least)


def near_house(village, letters, lengths, bound):
    """The first house with twice its gathering less than bound, None if there is none."""
    ask_letters(village, letters)
    ask_lengths(village, lengths)
    if not is_number(bound):
        raise BadNumber(bound)
    for house in village.houses():
        if 2 * gathering(village, letters, lengths, house) < bound:
            return house
    return None


def one_more(village, letters, lengths, house):
    """How much longer longest rounds are if house gets one letter more."""
    ask_letters(village, letters)
    ask_lengths(village, lengths)
    ask_house(village, house)
    more = {place: letters[place] for place in village.houses()}
    more[house] += 1
    longer = length_of(lengths, greatest_ledger(village, more))
    return longer - length_of(lengths, greatest_ledger(village, letters))
