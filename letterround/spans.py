"""Counts of errands that are not sure: what paths and ends can be, and how many runs."""

from letterround.errands import errands_fault
from letterround.errors import BadSpans
from letterround.fewruns import best_ends
from letterround.kinds import is_pair, is_span_table
from letterround.parities import both_let, by_parity, let_beside, numbers_beside
from letterround.runs import is_counts
from letterround.villages import ask_house, path_between
from letterround.ways import ask_path, pairs_behind_further, rooted


def ask_spans(village, spans):
    """Raises BadSpans for what is no pair of dicts from just all paths, all houses to pairs (least, most)."""
    if not is_pair(spans) or not is_span_table(spans[0], village.paths()):
        raise BadSpans(spans)
    if not is_span_table(spans[1], village.houses()):
        raise BadSpans(spans)


def is_possible(village, spans, thing):
    """Tells of any object whether it is counts in spans that are some errands'."""
    ask_spans(village, spans)
    if not is_counts(village, thing) or errands_fault(village, thing) is not None:
        return False
    for table, numbers in zip(spans, thing):
        if not all([table[key][0] <= numbers[key] <= table[key][1] for key in numbers]):
            return False
    return True


def all_branch_numbers(village, spans):
    """The dict from all pairs (house, one beside it) to what is let of the path between by what is beyond it."""
    near = village.near()
    told = {}
    for house, other in pairs_behind_further(village):
        signs = [told[(other, third)] for third in near[other] if third != house]
        signs.append(by_parity(spans[1][other]))
        told[(house, other)] = both_let(let_beside(signs), by_parity(spans[0][path_between(house, other)]))
    return told


def end_numbers(village, spans, house):
    """What is let of the ends of a house by all that is around, (None, None) if there are no possible counts."""
    beyond_it = all_branch_numbers(village, spans)
    signs = [beyond_it[(house, other)] for other in village.near()[house]]
    return both_let(let_beside(signs), by_parity(spans[1][house]))


def branch_numbers(village, spans, house, other):
    """The pair (even, odd) of what numbers the path to other can have by what is beyond it alone."""
    ask_spans(village, spans)
    ask_path(village, house, other)
    return all_branch_numbers(village, spans)[(house, other)]


def path_span(village, spans, house, other):
    """The pair (even, odd) of what numbers the path between two houses has in all possible counts."""
    ask_spans(village, spans)
    ask_path(village, house, other)
    told = all_branch_numbers(village, spans)
    return both_let(told[(house, other)], told[(other, house)])


def end_span(village, spans, house):
    """The pair (even, odd) of what numbers the ends of a house have in all possible counts."""
    ask_spans(village, spans)
    ask_house(village, house)
    return end_numbers(village, spans, house)


def possible_counts(village, spans):
    """Some possible counts, None if there are none."""
    ask_spans(village, spans)
    root = village.houses()[0]
    own = [pair[0] for pair in end_numbers(village, spans, root) if pair is not None]
    if len(own) == 0:
        return None
    told = all_branch_numbers(village, spans)
    near = village.near()
    by_path = {path: 0 for path in village.paths()}
    by_house = {house: 0 for house in village.houses()}
    by_house[root] = own[0]
    for house, back in rooted(village, root):
        further = [other for other in near[house] if other != back]
        signs = [told[(house, other)] for other in further]
        if back is None:
            numbers = numbers_beside(signs, by_house[root])
        else:
            signs.append(by_parity(spans[1][house]))
            numbers = numbers_beside(signs, by_path[path_between(house, back)])
            by_house[house] = numbers.pop()
        for other, number in zip(further, numbers):
            by_path[path_between(house, other)] = number
    return by_path, by_house


def fewest_possible(village, spans):
    """The least number of runs of possible counts, None if there are none."""
    ask_spans(village, spans)
    ends = best_ends(village, spans, -1)
    return None if ends is None else -ends // 2


def most_possible(village, spans):
    """The greatest number of runs of possible counts, None if there are none."""
    ask_spans(village, spans)
    ends = best_ends(village, spans, 1)
    return None if ends is None else ends // 2
