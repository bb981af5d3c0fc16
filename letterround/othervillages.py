"""Villages that are made of others."""

from letterround.errors import BadName, BadNames, BadSome, CommonHouse
from letterround.kinds import has_just, is_listed, is_name
from letterround.villages import Village, ask_house, is_house


def check_some(village, some):
    """Raises BadSome for what is no list of one or more unlike houses."""
    if not is_listed(some) or len(some) == 0:
        raise BadSome(0)
    seen = {}
    for index, house in enumerate(some):
        if not is_house(village, house) or house in seen:
            raise BadSome(index)
        seen[house] = True


def part_of(village, some):
    """The village of some houses that hang together."""
    check_some(village, some)
    inner = [(one, other) for one, other in village.paths() if one in some and other in some]
    return Village(some, inner)


def built_on(village, house, name):
    """The village with one house more, beside house."""
    ask_house(village, house)
    if not is_name(name) or is_house(village, name):
        raise BadName(name)
    return Village([*village.houses(), name], [*village.paths(), (house, name)])


def joined_by(one, other, house, far):
    """The village of two, and a path from one's house to other's far."""
    ask_house(one, house)
    ask_house(other, far)
    for name in one.houses():
        if is_house(other, name):
            raise CommonHouse(name)
    return Village([*one.houses(), *other.houses()], [*one.paths(), *other.paths(), (house, far)])


def is_renaming(village, thing):
    """Tells of any object whether it is a dict from just all houses to unlike names."""
    if not has_just(thing, village.houses()):
        return False
    names = list(thing.values())
    return all([is_name(name) for name in names]) and len(set(names)) == len(names)


def renamed(village, names):
    """The village with other names of its houses."""
    if not is_renaming(village, names):
        raise BadNames(names)
    houses = [names[house] for house in village.houses()]
    return Village(houses, [(names[one], names[other]) for one, other in village.paths()])
