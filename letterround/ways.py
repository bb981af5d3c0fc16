"""Ways from house to house, and what lies beyond a path."""

from letterround.errors import NoPath
from letterround.villages import ask_house, path_between


def rooted(village, root):
    """The list of the pairs (house, the one beside it towards root), root's first, and each behind its second."""
    near = village.near()
    told = [(root, None)]
    ahead = [(root, None)]
    while ahead:
        reached = [(far, house) for house, back in ahead for far in near[house] if far != back]
        told.extend(reached)
        ahead = reached
    return told


def pairs_behind_further(village):
    """The list of all pairs (house, one beside it), each behind those that lead further from its second house."""
    order = rooted(village, village.houses()[0])[1:]
    return [(back, house) for house, back in reversed(order)] + order


def steps_towards(village, root):
    """The dict from all houses to the next one on the way to root, None of root itself."""
    return {house: back for house, back in rooted(village, root)}


def signs_from(village, house):
    """The dict from all houses to what they are seen as from house: the one beside it on the way, or itself."""
    signs = {house: house}
    for far, back in rooted(village, house)[1:]:
        signs[far] = far if back == house else signs[back]
    return signs


def ask_path(village, house, other):
    """Raises NoHouse for what are no houses, NoPath for two without a path between."""
    ask_house(village, house)
    ask_house(village, other)
    if other not in village.near()[house]:
        raise NoPath(house, other)


def way(village, one, other):
    """The list of the houses from one to other, both with it, without turning back."""
    ask_house(village, one)
    ask_house(village, other)
    towards = steps_towards(village, other)
    row = [one]
    while row[-1] != other:
        row.append(towards[row[-1]])
    return row


def paths_on_way(village, one, other):
    """The list of the paths of the way from one to other."""
    row = way(village, one, other)
    return [path_between(house, further) for house, further in zip(row, row[1:])]


def beyond(village, house, other):
    """The ascending list of the houses to which ways from house lead by the path to other."""
    ask_path(village, house, other)
    signs = signs_from(village, house)
    return [far for far in village.houses() if signs[far] == other]
