"""Stretches of rounds, from leaving a house by a path to being back: what the least of them cost."""

from letterround.hours import all_tight, tight_off
from letterround.therule import spare
from letterround.villages import path_between
from letterround.ways import pairs_behind_further, way


def least_stretches(village, letters, ledger, costs, worth):
    """The dict from pairs (house, far) of which the path is gone to what a least stretch from house by it costs.

    Each time that a path is gone costs, and each letter that is brought. Beside this stands by which sign such a
    stretch goes on at far, None where the path is gone once, and all beyond it with it.
    """
    left_over = spare(village, letters, ledger)
    near = village.near()
    whole = {}
    told = {}
    for house, far in pairs_behind_further(village):
        path = path_between(house, far)
        further = [third for third in near[far] if third != house]
        inner = sum([whole[(far, third)] for third in further])
        whole[(house, far)] = 2 * costs[path] * ledger[path] + letters[far] * worth[far] + inner
        if ledger[path] == 1:
            told[(house, far)] = (whole[(house, far)], None)
        elif ledger[path] > 1:
            choices = [(told[(far, third)][0], third) for third in further if (far, third) in told]
            narrow = [choice for choice in choices if left_over[(far, choice[1])] <= 1]
            # Two letters or turns that are neither of a path as good as tight can't stand between all others.
            if not narrow and letters[far] > 0:
                choices.append((worth[far], far))
            least, sign = min(narrow or choices)
            told[(house, far)] = (2 * costs[path] + least, sign)
    return told


def stretches_ahead(village, letters, ledger, one, other):
    """The list of the pairs of a house on the way from one to other, and the far house of a stretch needed there."""
    return tight_off(all_tight(village, letters, ledger), way(village, one, other))
