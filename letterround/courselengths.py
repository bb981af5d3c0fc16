"""Lengths of courses: longest and shortest ones between two ends, and between whatever ends."""

from letterround.courserule import course_with
from letterround.coursenumbers import least_passes, most_passes
from letterround.courses import ask_ends, ends_fit
from letterround.errors import BadNumber
from letterround.kinds import is_number
from letterround.lengths import ask_lengths, gathering
from letterround.letters import ask_letters
from letterround.villages import path_between
from letterround.ways import rooted


def ask_measured(village, letters, lengths):
    """Raises BadLetters for what are no letters, BadLengths for what are no lengths."""
    ask_letters(village, letters)
    ask_lengths(village, lengths)


def length_gone(lengths, passes):
    """The length of all that a course with these passes goes."""
    return sum([lengths[path] * passes[path] for path in passes])


def longest_course(village, letters, lengths, first, last):
    """The pair of the length of a longest course from first to last, and such a course."""
    ask_measured(village, letters, lengths)
    passes = most_passes(village, letters, first, last)
    return length_gone(lengths, passes), course_with(village, letters, passes, first, last)


def shortest_course(village, letters, lengths, first, last):
    """The pair of the length of a shortest course from first to last, and such a course."""
    ask_measured(village, letters, lengths)
    passes = least_passes(village, letters, first, last)
    return length_gone(lengths, passes), course_with(village, letters, passes, first, last)


def way_lengths(village, lengths, root):
    """The dict from all houses to the lengths of their ways to root."""
    told = {root: 0}
    for house, back in rooted(village, root)[1:]:
        told[house] = told[back] + lengths[path_between(house, back)]
    return told


def near_end_house(village, letters, lengths, first, last, bound):
    """The first house with less than bound in twice its gathering less its ways to both ends, None if none has."""
    ask_measured(village, letters, lengths)
    ask_ends(village, letters, first, last)
    if not is_number(bound):
        raise BadNumber(bound)
    to_first = way_lengths(village, lengths, first)
    to_last = way_lengths(village, lengths, last)
    for house in village.houses():
        if 2 * gathering(village, letters, lengths, house) - to_first[house] - to_last[house] < bound:
            return house
    return None


def fitting_ends(village, letters):
    """The ascending list of the pairs of a first and a last house that fit the letters."""
    served = [house for house in village.houses() if letters[house] > 0]
    return [(first, last) for first in served for last in served if ends_fit(letters, first, last)]


def longest_ends(village, letters, lengths):
    """The pair of the length of the longest courses of all, and the ascending list of the ends of such."""
    ask_measured(village, letters, lengths)
    found = {}
    for first, last in fitting_ends(village, letters):
        # A course turned about is as long.
        if last < first:
            found[(first, last)] = found[(last, first)]
        else:
            found[(first, last)] = length_gone(lengths, most_passes(village, letters, first, last))
    most = max(found.values())
    return most, [ends for ends in found if found[ends] == most]


def shortest_ends(village, letters, lengths):
    """The pair of the length of the shortest courses of all, and the ascending list of the ends of such."""
    ask_measured(village, letters, lengths)
    ways = {house: way_lengths(village, lengths, house) for house in village.houses()}
    ends = fitting_ends(village, letters)
    farthest = max([ways[first][last] for first, last in ends])
    told = [(first, last) for first, last in ends if ways[first][last] == farthest]
    one, other = told[0]
    return length_gone(lengths, least_passes(village, letters, one, other)), told
