"""Villages: houses, joined by paths that make no ring."""

from letterround.errors import BadHouses, BadPaths, NoHouse, NotJoined
from letterround.kinds import OwnThing, is_listed, is_name, is_pair


class Village(OwnThing):
    """Houses and the paths between them; it never changes."""

    def __init__(self, houses, paths):
        check_houses(houses)
        self._houses = sorted(houses)
        self._paths = checked_paths(self._houses, paths)
        self._near = near_houses(self._houses, self._paths)

    def houses(self):
        """The ascending list of the houses."""
        return list(self._houses)

    def paths(self):
        """The ascending list of the paths, pairs of which the lesser house is first."""
        return list(self._paths)

    def near(self):
        """The dict from the houses to those beside them, for the package alone: nobody changes it."""
        return self._near

    def __len__(self):
        return len(self._houses)

    def __eq__(self, other):
        return isinstance(other, Village) and self._houses == other._houses and self._paths == other._paths


def check_houses(houses):
    """Raises BadHouses for what is no list of one or more unlike names."""
    if not is_listed(houses) or len(houses) == 0:
        raise BadHouses(0)
    seen = {}
    for index, house in enumerate(houses):
        if not is_name(house) or house in seen:
            raise BadHouses(index)
        seen[house] = True


def checked_paths(houses, paths):
    """The ascending list of the paths, where they join all houses without a ring; else it raises."""
    if not is_listed(paths):
        raise BadPaths(0)
    group = {house: house for house in houses}
    told = []
    for index, pair in enumerate(paths):
        if not is_pair(pair) or not all([isinstance(house, str) and house in group for house in pair]):
            raise BadPaths(index)
        if group[pair[0]] == group[pair[1]]:
            raise BadPaths(index)
        group = joined_groups(group, group[pair[0]], group[pair[1]])
        told.append(path_between(pair[0], pair[1]))
    for house in houses:
        if group[house] != group[houses[0]]:
            raise NotJoined(house)
    return sorted(told)


def joined_groups(group, one, other):
    """The groups that houses are of, by a path between two groups made one."""
    return {house: one if group[house] == other else group[house] for house in group}


def near_houses(houses, paths):
    """The dict from all houses to the ascending lists of those beside them, paths being ascending."""
    near = {house: [] for house in houses}
    for one, other in paths:
        near[one].append(other)
        near[other].append(one)
    return near


def path_between(one, other):
    """The path of two houses as it is told: the lesser one is first."""
    return (one, other) if one < other else (other, one)


def is_house(village, thing):
    """Tells of any object whether it is a house of the village."""
    return isinstance(thing, str) and thing in village.near()


def ask_house(village, thing):
    """Raises NoHouse for what is no house of the village."""
    if not is_house(village, thing):
        raise NoHouse(thing)


def beside(village, house):
    """The ascending list of the houses a path further."""
    ask_house(village, house)
    return list(village.near()[house])
