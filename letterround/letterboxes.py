"""Boxes of letters and ledgers, both not known: pairs in them, papers against them, spans of the numbers."""

from letterround.balanced import filled
from letterround.errors import BadBox, NoPath, NotPossible
from letterround.kinds import is_pair, is_span_table
from letterround.letters import all_beyond, is_letters
from letterround.rounds import is_ledger
from letterround.therule import can_be
from letterround.villages import ask_house, path_between
from letterround.ways import pairs_behind_further, rooted


def ask_letterbox(village, box):
    """Raises BadBox for what is no pair of dicts from just all houses, and from just all paths, to pairs."""
    if not is_pair(box) or not is_span_table(box[0], village.houses()) or not is_span_table(box[1], village.paths()):
        raise BadBox(box)


def is_in(village, box, thing):
    """Tells of any object whether it is a pair of letters and a ledger of a round with these, in a box."""
    ask_letterbox(village, box)
    if not is_pair(thing) or not is_letters(village, thing[0]) or not is_ledger(village, thing[1]):
        return False
    for numbers, spans in zip(thing, box):
        if not all([spans[key][0] <= numbers[key] <= spans[key][1] for key in numbers]):
            return False
    return can_be(village, thing[0], thing[1])


def hull_of(village, box):
    """The pair of the lists of the houses and of the paths of a box's hull, both ascending, perhaps empty."""
    by_house, by_path = box
    wanted = {house: 1 if by_house[house][0] > 0 else 0 for house in village.houses()}
    for path in village.paths():
        if by_path[path][0] > 0:
            wanted[path[0]] = 1
            wanted[path[1]] = 1
    further = all_beyond(village, wanted)
    paths = [(one, other) for one, other in village.paths() if further[(one, other)] and further[(other, one)]]
    ends = {house: True for path in paths for house in path}
    return [house for house in village.houses() if wanted[house] == 1 or house in ends], paths


def rooms_of(village, box, hull):
    """The dict from all houses to how many letters they have room for, hull being the hull's houses."""
    by_house, by_path = box
    if len(hull) == 0:
        return {house: by_house[house][1] for house in village.houses()}
    reached = {}
    for house, back in rooted(village, hull[0]):
        reached[house] = house in hull or (reached[back] and by_path[path_between(house, back)][1] > 0)
    return {house: by_house[house][1] if reached[house] else 0 for house in village.houses()}


def sides(village, box):
    """The dict from all pairs (house, one beside it) to the pair (low, high) of what is beyond lets the path have."""
    ask_letterbox(village, box)
    near = village.near()
    hull, hull_paths = hull_of(village, box)
    rooms = rooms_of(village, box, hull)
    found = {}
    for house, other in pairs_behind_further(village):
        path = path_between(house, other)
        further = [found[(other, third)] for third in near[other] if third != house]
        room = rooms[other] + sum([high for low, high in further])
        lows = [box[1][path][0], 1 if path in hull_paths else 0]
        lows.extend([low + high - room for low, high in further])
        found[(house, other)] = (max(lows), min(box[1][path][1], room))
    return {pair: found[pair] for pair in sorted(found)}


def letterbox_paper(village, box):
    """The first thing that keeps all pairs from being in a box, None if there is a pair in it."""
    found = sides(village, box)
    if not any([most > 0 for least, most in box[0].values()]):
        return ("none",)
    hull, hull_paths = hull_of(village, box)
    for path in hull_paths:
        if box[1][path][1] == 0:
            return "shut", path
    rooms = rooms_of(village, box, hull)
    near = village.near()
    for house, other in found:
        highs = [found[(house, far)][1] for far in near[house] if far != other]
        if found[(house, other)][0] > rooms[house] + sum(highs):
            return "much", house, other
    return None


def some_pair(village, box):
    """A pair of letters and a ledger in a box, None if there is none."""
    if letterbox_paper(village, box) is not None:
        return None
    hull = hull_of(village, box)[0]
    if len(hull) == 0:
        return one_letter(village, box)
    found = sides(village, box)
    letters = rooms_of(village, box, hull)
    highs = {pair: found[pair][1] for pair in found}
    return letters, filled(village, hull[0], letters, highs, 0)


def one_letter(village, box):
    """The pair of one letter, for the first house that may get it, and no path gone."""
    first = [house for house in village.houses() if box[0][house][1] > 0][0]
    return {house: 1 if house == first else 0 for house in village.houses()}, {path: 0 for path in village.paths()}


def ask_spanned(village, box):
    """Raises BadBox also if no path is in the hull, NotPossible if no pair is in the box."""
    ask_letterbox(village, box)
    if len(hull_of(village, box)[1]) == 0:
        raise BadBox(box)
    if letterbox_paper(village, box) is not None:
        raise NotPossible()


def gone_span(village, box, path):
    """The pair (least, most) of the numbers that a path has in the pairs in a box."""
    ask_spanned(village, box)
    if path_between(path[0], path[1]) not in village.paths():
        raise NoPath(path[0], path[1])
    return span_of(sides(village, box), path[0], path[1])


def span_of(found, one, other):
    """The pair of the greater low and the lesser high of a path's two pairs."""
    here, there = found[(one, other)], found[(other, one)]
    return max(here[0], there[0]), min(here[1], there[1])


def house_span(village, box, house):
    """The pair (least, most) of the numbers that a house has in the pairs in a box."""
    ask_spanned(village, box)
    ask_house(village, house)
    around = [pair for key, pair in sides(village, box).items() if key[0] == house]
    highs = sum([high for low, high in around])
    room = rooms_of(village, box, hull_of(village, box)[0])[house]
    lows = [low + high - highs for low, high in around]
    return max([box[0][house][0], *lows]), room
