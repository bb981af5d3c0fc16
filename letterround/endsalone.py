"""Errands of which only the ends are known: whether there are some, their paths' counts, longest and shortest ones."""

from letterround.errands import errands_with
from letterround.errors import BadEnds
from letterround.kinds import is_table
from letterround.letters import all_beyond
from letterround.villages import path_between
from letterround.ways import ask_path, beyond, rooted


def ends_fault(village, ends):
    """What keeps ends from being some errands', None if nothing does."""
    if not is_table(ends, village.houses()):
        raise BadEnds(ends)
    total = sum(ends.values())
    if total % 2 == 1:
        return ("odd",)
    for house in village.houses():
        if 2 * ends[house] > total:
            return "much", house
    return None


def span_beyond(ends):
    """The pair of the fewest and the most of some houses' ends that can go away: two of one house are in no run."""
    most = sum(ends)
    return max(most % 2, 2 * max(ends) - most), most


def rim_range(village, ends, house, other):
    """The pair of how often the path from house to other can be gone at least and at most, as those beyond tell."""
    ends_fault(village, ends)
    return span_beyond([ends[far] for far in beyond(village, house, other)])


def path_range(village, ends, one, other):
    """The ascending list of the counts that a path has in errands with these ends."""
    fault = ends_fault(village, ends)
    ask_path(village, one, other)
    if fault is not None:
        return []
    there = rim_range(village, ends, one, other)
    here = rim_range(village, ends, other, one)
    return list(range(max(there[0], here[0]), min(there[1], here[1]) + 1, 2))


def longest_errands(village, ends):
    """Errands with these ends that go as much in all as can be, None if there are none."""
    if ends_fault(village, ends) is not None:
        return None
    further = all_beyond(village, ends)
    by_path = {(one, other): min(further[(one, other)], further[(other, one)]) for one, other in village.paths()}
    return errands_with(village, (by_path, ends))


def shortest_errands(village, ends):
    """Errands with these ends that go as little in all as can be, None if there are none."""
    if ends_fault(village, ends) is not None:
        return None
    root = village.houses()[0]
    near = village.near()
    tables = {}
    for house, back in reversed(rooted(village, root)):
        rows = cheapest_rows([tables[other] for other in near[house] if other != back])
        numbers = [0] if back is None else path_range(village, ends, house, back)
        tables[house] = cheapest_by_number(rows, house, numbers, ends[house])
    by_path = {path: 0 for path in village.paths()}
    for house, back in rooted(village, root)[1:]:
        by_path[path_between(house, back)] = tables[root][0][1][house]
    return errands_with(village, (by_path, ends))


def cheapest_rows(tables):
    """The dict from pairs (sum, greatest) of a number of each table to a least cost, and the numbers that have it."""
    rows = {(0, 0): (0, {})}
    for table in tables:
        longer = {}
        for total, most in rows:
            cost, told = rows[(total, most)]
            for number in table:
                more, behind = table[number]
                state = (total + number, max(most, number))
                if state not in longer or cost + more < longer[state][0]:
                    longer[state] = (cost + more, {**told, **behind})
        rows = longer
    return rows


def cheapest_by_number(rows, house, numbers, own):
    """The dict from a house's numbers of passes, towards the root, to a least cost, and the numbers that have it."""
    told = {}
    for number in numbers:
        for total, most in rows:
            cost, behind = rows[(total, most)]
            whole = total + number + own
            if whole % 2 == 0 and 2 * max(most, number, own) <= whole:
                if number not in told or cost + number < told[number][0]:
                    told[number] = (cost + number, {**behind, house: number})
    return told
