"""In how many ways rounds go within a branch, and how many rounds two branches have together."""

from letterround.branches import bare_pair, hung, pairs_towards
from letterround.ways import rooted
from letterround.words import count_framed, count_words


def numbers_let(pair):
    """The list of the numbers of a pair that is let, none if it is None."""
    return [] if pair is None else list(range(pair[0], pair[1] + 1))


def rows_beside(village, letters, boxes, root):
    """The list of pairs: numbers of the paths at root, and in how many ways all that is beyond goes with them."""
    let = pairs_towards(village, letters, boxes, [root])
    near = village.near()
    tables = {}
    rows = []
    for house, back in reversed(rooted(village, root)):
        rows = all_rows([tables[other] for other in near[house] if other != back])
        if back is not None:
            told = numbers_let(let[(back, house)])
            tables[house] = {number: ways_framed(number, rows, letters[house]) for number in told}
    return rows


def all_rows(tables):
    """The list of pairs: a number of each table, and the product of their ways."""
    rows = [([], 1)]
    for table in tables:
        rows = [([*numbers, number], ways * table[number]) for numbers, ways in rows for number in table]
    return rows


def ways_framed(number, rows, letters):
    """In how many ways a house and all beyond it go, if the path by which it is come to is gone so often."""
    if number == 0:
        return 1
    return sum([ways * count_framed([number, *numbers], letters) for numbers, ways in rows])


def bare_row(branch):
    """The dict from the numbers let to how many ways rounds can go within a branch from coming in first on."""
    pair = bare_pair(branch)
    if pair == (0, 0):
        return {}
    letters = branch.letters()
    rows = rows_beside(branch.village(), letters, branch.boxes(), branch.rim())
    return {number: ways_framed(number, rows, letters[branch.rim()]) for number in numbers_let(pair)}


def rounds_over(one, other):
    """How many rounds have the letters of two branches whose rims a path joins, inner paths in their boxes."""
    both = hung(one, one.rim(), other, (0, None))
    village = both.village()
    letters = both.letters()
    boxes = both.boxes()
    many = 0
    for first in village.houses():
        if letters[first] > 0:
            rows = rows_beside(village, letters, boxes, first)
            many += sum([ways * count_words(numbers, letters[first] - 1) for numbers, ways in rows])
    return many
