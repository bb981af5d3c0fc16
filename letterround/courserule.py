"""The rule for courses: which passes some course has from a first house to a last one, and courses that are built."""

from letterround.builtrounds import cut_pieces
from letterround.courses import ask_ends, ask_passes, ends_fit, weights
from letterround.letters import ask_letters
from letterround.therule import parting_paths
from letterround.villages import path_between
from letterround.ways import paths_on_way, rooted, steps_towards


def ask_course(village, letters, passes, first, last):
    """Raises BadLetters, BadPasses, NoHouse, NoEnd, in this order."""
    ask_letters(village, letters)
    ask_passes(village, passes)
    ask_ends(village, letters, first, last)


def course_fault(village, letters, passes, first, last):
    """The first thing that keeps passes from being those of a course from first to last, None if nothing does."""
    ask_course(village, letters, passes, first, last)
    on_way = paths_on_way(village, first, last)
    live = parting_paths(village, letters)
    for path in village.paths():
        if passes[path] % 2 != (1 if path in on_way else 0):
            return ("odd", *path)
    for path in live:
        if passes[path] == 0:
            return ("still", *path)
    for path in village.paths():
        if path not in live and passes[path] > 0:
            return ("idle", *path)
    return much_fault(village, weights(village, letters, first, last), passes)


def much_fault(village, weighed, passes):
    """The first path at a house that is gone more often than all others there and its weight together, if any is."""
    near = village.near()
    for house in village.houses():
        total = weighed[house] + sum([passes[path_between(house, other)] for other in near[house]])
        for other in near[house]:
            if 2 * passes[path_between(house, other)] > total:
                return "much", house, other
    return None


def course_with(village, letters, passes, first, last):
    """A course of just these letters from first to last with these passes, None if there is none."""
    if course_fault(village, letters, passes, first, last) is not None:
        return None
    towards_first = steps_towards(village, first)
    towards_last = steps_towards(village, last)
    pieces = {}
    for house, back in reversed(rooted(village, first)):
        if back is None or passes[path_between(house, back)] > 0:
            start = house if house == first else towards_first[house]
            end = house if house == last else towards_last[house]
            signs = signs_of(village, letters, passes, house, [start, end])
            pieces[house] = cut_pieces(house, back, row_of_signs(house, signs, start, end), pieces)
    return pieces[first][0]


def signs_of(village, letters, passes, house, ends):
    """The dict from a house's signs to how often each stands in what a course is seen as from there."""
    # What goes by a path in the middle of a course comes back by it, at the ends of it not.
    told = {house: letters[house]}
    for other in village.near()[house]:
        told[other] = (passes[path_between(house, other)] + ends.count(other)) // 2
    return told


def row_of_signs(house, signs, start, end):
    """A row of just these signs from start to end, no two of one path side by side, where there is such."""
    if sum(signs.values()) == 1:
        return [start]
    left = {sign: signs[sign] for sign in signs}
    left[start] -= 1
    left[end] -= 1
    row = [start]
    many = sum(left.values())
    for _ in range(many):
        sign = pressing_sign(house, left, row[-1], end)
        left[sign] -= 1
        row.append(sign)
    return [*row, end]


def pressing_sign(house, left, ahead, end):
    """The sign of which most is left, other than the path's ahead; one more of the last sign is still to come."""
    weighed = []
    for sign in left:
        if left[sign] > 0 and (sign == house or sign != ahead):
            weighed.append((2 * left[sign] + (1 if sign == end else 0), sign))
    return max(weighed)[1]


def odd_houses(village, passes):
    """The ascending list of the houses at which an odd number of paths have odd passes."""
    ask_passes(village, passes)
    near = village.near()
    told = []
    for house in village.houses():
        if sum([passes[path_between(house, other)] for other in near[house]]) % 2 == 1:
            told.append(house)
    return told


def course_ends(village, letters, passes):
    """The ascending list of the pairs of the first and the last house of all courses with these passes."""
    ask_letters(village, letters)
    odd = odd_houses(village, passes)
    if len(odd) == 0:
        pairs = [(house, house) for house in village.houses()]
    elif len(odd) == 2:
        pairs = [(odd[0], odd[1]), (odd[1], odd[0])]
    else:
        pairs = []
    told = []
    for first, last in pairs:
        if ends_fit(letters, first, last) and course_fault(village, letters, passes, first, last) is None:
            told.append((first, last))
    return told
