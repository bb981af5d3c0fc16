"""Hours of a round's letters, tight paths, and which letters can be one right behind the other."""

from letterround.errors import NoRound
from letterround.lengths import ask_lengths, length_of
from letterround.letters import ask_round
from letterround.rounds import ask_ledger
from letterround.therule import paper_of, spare
from letterround.villages import ask_house, path_between
from letterround.ways import paths_on_way, way


def hours_of(village, row, lengths):
    """The list of the hours of a round's letters, the first one's 0."""
    ask_round(village, row)
    ask_lengths(village, lengths)
    hours = [0]
    for house, further in zip(row, row[1:]):
        hours.append(hours[-1] + sum([lengths[path] for path in paths_on_way(village, house, further)]))
    return hours


def whole_hours(village, ledger, lengths):
    """The hour at which any round with a ledger is back."""
    ask_ledger(village, ledger)
    ask_lengths(village, lengths)
    return length_of(lengths, ledger)


def ask_some_round(village, letters, ledger):
    """Raises BadLetters, BadLedger, NoRound where no round has these."""
    paper = paper_of(village, letters, ledger)
    if paper is not None:
        raise NoRound(paper)


def all_tight(village, letters, ledger):
    """The dict from all houses to the ascending lists of the houses to which tight paths lead."""
    left_over = spare(village, letters, ledger)
    near = village.near()
    told = {}
    for house in village.houses():
        gone = [other for other in near[house] if ledger[path_between(house, other)] > 0]
        told[house] = [other for other in gone if left_over[(house, other)] == 0]
    return told


def tight_paths(village, letters, ledger, house):
    """The ascending list of the houses beside house to which tight paths lead."""
    ask_some_round(village, letters, ledger)
    ask_house(village, house)
    return all_tight(village, letters, ledger)[house]


def tight_off(tight, row):
    """The list of the pairs (house, far) along a way such that there the path to far is tight, and is not gone."""
    told = []
    for place, house in enumerate(row):
        beside_it = [*row[max(0, place - 1):place], *row[place + 1:place + 2]]
        told.extend([(house, far) for far in tight[house] if far not in beside_it])
    return told


def can_follow(village, letters, ledger, one, other):
    """Tells whether in some round a letter for other comes right behind one for one."""
    return bar_between(village, letters, ledger, one, other) is None


def bar_between(village, letters, ledger, one, other):
    """What keeps a letter for other from coming right behind one for one, None if nothing does."""
    ask_some_round(village, letters, ledger)
    ask_house(village, one)
    ask_house(village, other)
    for house in (one, other):
        if letters[house] == 0:
            return "letters", house
    if one == other and letters[one] == 1 and sum(letters.values()) > 1:
        return "letters", one
    found = tight_off(all_tight(village, letters, ledger), way(village, one, other))
    return ("tight", *found[0]) if found else None
