"""Branches that are alike: what parts others, and branches with a given pair."""

from letterround.branches import Branch, bare_pair, is_let_pair
from letterround.errors import BadPair
from letterround.villages import Village


def parting_number(one, other):
    """The least number from 1 on that just one of two branches lets, None if there is none."""
    # What is not let at all counts as the pair (0, 0): no number from 1 on is in it.
    first = bare_pair(one) or (0, 0)
    second = bare_pair(other) or (0, 0)
    if first == second:
        return None
    if first == (0, 0) or second == (0, 0):
        return max(first[0], second[0])
    if first[0] != second[0]:
        return min(first[0], second[0])
    return min(first[1], second[1]) + 1


def ask_pair(pair):
    """Raises BadPair for what is no pair (least, most) of integers, 1 at least, most from least on."""
    if not is_let_pair(pair):
        raise BadPair(pair)


def told_branch(pair):
    """A branch with this bare pair, each box a number twice, None if there is none."""
    ask_pair(pair)
    least, most = pair
    if least == 1:
        return Branch(Village(["rim"], []), "rim", {"rim": most}, {})
    if (least + most) % 2 == 1:
        return None
    told = (least + most) // 2
    return two_houses(most - told, told, (told, told))


def boxed_branch(pair):
    """A branch with this bare pair."""
    ask_pair(pair)
    return two_houses(0, pair[1], (pair[0], pair[1]))


def two_houses(at_rim, letters, box):
    """A branch of the rim and one house beside it, with so many letters, the path between in a box."""
    village = Village(["rim", "x"], [("rim", "x")])
    return Branch(village, "rim", {"rim": at_rim, "x": letters}, {("rim", "x"): box})
