"""How many runs join two signs at a house, go from one house to another, or by two paths."""

from letterround.errands import errands_fault, signs_by_counts
from letterround.errors import BadNumber, BadPath, NoErrands, NoSign, SameHouse, SameSign
from letterround.joins import halved, in_pairs, rows_joined
from letterround.kinds import is_number, is_pair
from letterround.villages import ask_house, is_house, path_between
from letterround.ways import way


def ask_some_errands(village, counts):
    """Raises BadCounts for what are no counts, NoErrands where no errands have them."""
    paper = errands_fault(village, counts)
    if paper is not None:
        raise NoErrands(paper)


def ask_signs(village, house, one, other):
    """Raises NoHouse, NoSign for what is no sign of the house, SameSign for one sign twice."""
    ask_house(village, house)
    signs = [house, *village.near()[house]]
    for thing in (one, other):
        if not isinstance(thing, str) or thing not in signs:
            raise NoSign(thing)
    if one == other:
        raise SameSign(other)


def ask_two_houses(village, one, other):
    """Raises NoHouse for what is no house, SameHouse for one house twice."""
    ask_house(village, one)
    ask_house(village, other)
    if one == other:
        raise SameHouse(other)


def span_joined(signs, one, other):
    """The pair of the fewest and the most runs that join two of a house's signs."""
    others = [signs[sign] for sign in signs if sign not in (one, other)]
    both = signs[one] + signs[other]
    most = min(signs[one], signs[other], (both + sum(others)) // 2 - max(others, default=0))
    return max(0, (both - sum(others)) // 2), most


def joined_range(village, counts, house, one, other):
    """The pair of the fewest and the most runs that join two signs at a house."""
    ask_some_errands(village, counts)
    ask_signs(village, house, one, other)
    return span_joined(signs_by_counts(village, counts, house), one, other)


def turns_of_way(row):
    """The list of the triples of a house on a way, the sign by which it is come to, and that by which it is left."""
    return list(zip(row, [row[0], *row], row[1:] + row[-1:]))


def span_along(village, counts, turns):
    """The pair of the fewest and the most runs that turn so at houses one behind another."""
    spans = [span_joined(signs_by_counts(village, counts, house), one, other) for house, one, other in turns]
    houses = [house for house, one, other in turns]
    between = [counts[0][path_between(house, further)] for house, further in zip(houses, houses[1:])]
    return max(0, sum([least for least, most in spans]) - sum(between)), min([most for least, most in spans])


def runs_range(village, counts, one, other):
    """The pair of the fewest and the most runs that go between two houses."""
    ask_some_errands(village, counts)
    ask_two_houses(village, one, other)
    return span_along(village, counts, turns_of_way(way(village, one, other)))


def runs_of_pairs(village, counts):
    """The list of pairs: two houses, one ahead of the other, and the fewest and the most runs between them."""
    ask_some_errands(village, counts)
    houses = village.houses()
    told = []
    for place, one in enumerate(houses):
        for other in houses[place + 1:]:
            told.append(((one, other), span_along(village, counts, turns_of_way(way(village, one, other)))))
    return told


def sure_runs(village, counts):
    """The ascending list of the pairs of houses between which a run goes in all errands with these counts."""
    return [pair for pair, (least, most) in runs_of_pairs(village, counts) if least > 0]


def possible_runs(village, counts):
    """The ascending list of the pairs of houses between which a run goes in some errands with these counts."""
    return [pair for pair, (least, most) in runs_of_pairs(village, counts) if most > 0]


def is_path(village, thing):
    """Tells of any object whether it is a path of the village, either way round."""
    if not is_pair(thing) or not all([is_house(village, house) for house in thing]):
        return False
    return thing[1] in village.near()[thing[0]]


def by_both(village, counts, first, second):
    """The pair of the fewest and the most runs that go by both of two paths."""
    ask_some_errands(village, counts)
    if not is_path(village, first):
        raise BadPath(first)
    if not is_path(village, second) or path_between(*first) == path_between(*second):
        raise BadPath(second)
    rows = [way(village, one, other) for one in first for other in second]
    longest = max([len(row) for row in rows])
    return span_along(village, counts, turns_of_way([row for row in rows if len(row) == longest][0])[1:-1])


def errands_between(village, counts, one, other, number):
    """Errands with these counts of which just so many runs go between two houses, None if there are none."""
    least, most = runs_range(village, counts, one, other)
    if not is_number(number):
        raise BadNumber(number)
    if not least <= number <= most:
        return None
    groups = {house: in_pairs(signs_by_counts(village, counts, house)) for house in village.houses()}
    through = None
    for house, back, further in turns_of_way(way(village, one, other)):
        signs = signs_by_counts(village, counts, house)
        joining = max(span_joined(signs, back, further)[0], number)
        # Of those that come so far, the first passes, as few go on as can be, so many as are asked for at least.
        coming = signs[back] if through is None else through
        through = max(number, coming + joining - signs[back])
        groups[house] = pairs_going_on(signs, back, further, [coming, joining, through])
    return [tuple(row) for row in rows_joined(groups)]


def pairs_going_on(signs, back, further, numbers):
    """The pairs of a house's members of which so many join two signs, some of them those that come from far."""
    coming, joining, through = numbers
    pairs = [[(back, index), (further, index)] for index in range(through)]
    for index in range(joining - through):
        pairs.append([(back, coming + index), (further, through + index)])
    used = [member for pair in pairs for member in pair]
    both = [(sign, index) for sign in (back, further) for index in range(signs[sign])]
    # What is left of these two signs is joined with others alone, as if it was one sign.
    left = [member for member in both if member not in used]
    left.extend([(sign, index) for sign in signs if sign not in (back, further) for index in range(signs[sign])])
    return pairs + halved(left)
