"""Rounds that show first hours and last ones."""

from letterround.builtrounds import joined_at, ring_of
from letterround.firsthours import ask_timed, stretches_by_hours
from letterround.hours import all_tight, tight_off
from letterround.villages import path_between
from letterround.ways import way


def early_round(village, letters, ledger, lengths, start, house):
    """A round whose first letter is for start that brings one for house at its first hour."""
    ask_timed(village, letters, ledger, lengths, [start, house])
    return timed_round(village, letters, ledger, lengths, way(village, start, house))


def late_round(village, letters, ledger, lengths, start, house):
    """A round whose first letter is for start that brings one for house at its last hour."""
    ask_timed(village, letters, ledger, lengths, [start, house])
    row = timed_round(village, letters, ledger, lengths, way(village, start, house))
    # Turned about, what was early is late.
    return row[:1] + row[:0:-1]


def timed_round(village, letters, ledger, lengths, row):
    """A round from the first house of a way that goes it to its last one with the least stretches between.

    Of one house alone the next letter for it, where there is one, comes so.
    """
    begun = rings_begun(village, letters, ledger, lengths, row)
    rings = {}
    for house in village.houses():
        if house in begun:
            rings[house] = ring_behind(village, letters, ledger, house, begun[house])
        else:
            rings[house] = ring_of(village, letters, ledger, house)
    return joined_at(village, rings, row[0])


def rings_begun(village, letters, ledger, lengths, row):
    """The dict from some houses to the first signs of their rings, each piece that comes first being a least one."""
    stretches = stretches_by_hours(village, letters, ledger, lengths)
    ahead = {house: far for house, far in tight_off(all_tight(village, letters, ledger), row)}
    begun = {}
    for place, house in enumerate(row):
        begun[house] = [row[place - 1] if place > 0 else house]
        if house in ahead:
            begun[house].append(ahead[house])
        begun[house].extend(row[place + 1:place + 2] or [house])
    if letters[row[0]] == 1 and len(row) == 1:
        begun[row[0]] = [row[0]]
    for house in ahead:
        begun.update(rings_of_stretch(stretches, house, ahead[house]))
    return begun


def rings_of_stretch(stretches, house, far):
    """The dict from houses that a least stretch comes to and goes on from to the first signs of their rings."""
    begun = {}
    row = [house, far]
    while row[-1] != row[-2] and stretches[(row[-2], row[-1])][1] is not None:
        back, place = row[-2:]
        sign = stretches[(back, place)][1]
        begun[place] = [back, sign, back]
        row.append(sign)
    return begun


def ring_behind(village, letters, ledger, house, begun):
    """A ring of a house's signs that begins so, no two of one path side by side."""
    left = {other: ledger[path_between(house, other)] for other in village.near()[house]}
    left[house] = letters[house]
    for sign in begun:
        left[sign] -= 1
    ring = list(begun)
    while any([left[sign] > 0 for sign in left]):
        sign = next_sign(left, house, ring)
        ring.append(sign)
        left[sign] -= 1
    return ring


def next_sign(left, house, ring):
    """The first sign with which a ring that is begun can go on to its end."""
    for sign in sorted(left):
        if left[sign] > 0 and (sign == house or sign != ring[-1]):
            further = {other: left[other] - 1 if other == sign else left[other] for other in left}
            if can_close(further, house, [ring[0], sign]):
                return sign
    return None


def can_close(left, house, ends):
    """Tells whether what is left of a house's signs can be put between both ends of a ring."""
    total = sum(left.values())
    return not any([left[sign] + ends.count(sign) > 1 + total - left[sign] for sign in left if sign != house])
