"""Rounds that are built: of a ledger, or of rings of signs."""

from letterround.errors import BadRings
from letterround.kinds import has_just, is_listed
from letterround.therule import ask_both, can_be
from letterround.villages import ask_house, path_between
from letterround.ways import rooted


def built_round(village, letters, ledger):
    """A round with these letters and this ledger, None if there is none."""
    if not can_be(village, letters, ledger):
        return None
    rings = {house: ring_of(village, letters, ledger, house) for house in village.houses()}
    return joined(village, rings)


def built_from(village, letters, ledger, first):
    """A round with these letters and this ledger, begun at house first, None if there is none."""
    ask_both(village, letters, ledger)
    ask_house(village, first)
    row = built_round(village, letters, ledger)
    if row is None or first not in row:
        return None
    start = row.index(first)
    return row[start:] + row[:start]


def ring_of(village, letters, ledger, house):
    """A ring of a house's signs, as many as there are, in which no two of one path are side by side."""
    gone = [(other, ledger[path_between(house, other)]) for other in village.near()[house]]
    signs = []
    for other, many in sorted(gone, key=lambda pair: (-pair[1], pair[0])):
        signs.extend([other] * many)
    signs.extend([house] * letters[house])
    return spread_out(signs)


def spread_out(signs):
    """Signs put on every other place, then on those between.

    Alike ones, the most frequent first, come side by side only where they are more than half of all.
    """
    half = (len(signs) + 1) // 2
    return [signs[place // 2 + (place % 2) * half] for place in range(len(signs))]


def is_idle(house, ring):
    """Tells whether a house's ring is one sign alone, a path's."""
    return len(ring) == 1 and ring[0] != house


def is_ring(village, house, thing):
    """Tells of any object whether it is a list of a house's signs that may stand alone, or as a ring."""
    if not is_listed(thing) or len(thing) == 0:
        return False
    signs = [house, *village.near()[house]]
    if not all([sign in signs for sign in thing]):
        return False
    if len(thing) == 1:
        return True
    return not any([thing[place] != house and thing[place] == thing[place - 1] for place in range(len(thing))])


def rings_meet(rings, one, other):
    """Tells whether two houses' rings agree about the path between."""
    of_one = rings[one].count(other)
    of_other = rings[other].count(one)
    if of_one > 0 and is_idle(one, rings[one]):
        return of_other == 0
    if of_other > 0 and is_idle(other, rings[other]):
        return of_one == 0
    return of_one == of_other and of_one > 0


def are_rings(village, thing):
    """Tells of any object whether it is rings of the village."""
    if not has_just(thing, village.houses()):
        return False
    if not all([is_ring(village, house, thing[house]) for house in village.houses()]):
        return False
    return all([rings_meet(thing, one, other) for one, other in village.paths()])


def fitted(village, rings):
    """A round of which each house's ring is what it is seen as from there."""
    if not are_rings(village, rings):
        raise BadRings(rings)
    return joined(village, rings)


def joined(village, rings):
    """The round of rings that agree."""
    # Some house has a sign of its own, and none that has is idle: all that is gone hangs together with it. What
    # idle lists are cut to is never asked for.
    return joined_at(village, rings, [house for house in village.houses() if house in rings[house]][0])


def joined_at(village, rings, root):
    """The round of rings that agree: each one's pieces stand in place of its signs in the next one towards the root.

    It begins as root's ring does; of each other house the first piece is that behind the ring's first sign, if this
    leads towards root.
    """
    pieces = {}
    for house, back in reversed(rooted(village, root)):
        if back is None or back in rings[house]:
            pieces[house] = cut_pieces(house, back, rings[house], pieces)
    return pieces[root][0]


def cut_pieces(house, back, ring, pieces):
    """The lists of letters between a ring's signs of the path back, one list of all if there is no way back."""
    start = ring.index(back) + 1 if back is not None else 0
    told = [[]]
    used = {sign: 0 for sign in ring}
    for sign in ring[start:] + ring[:start]:
        if sign == back:
            told.append([])
        elif sign == house:
            told[-1].append(house)
        else:
            told[-1].extend(pieces[sign][used[sign]])
            used[sign] += 1
    return told if back is None else told[:-1]
