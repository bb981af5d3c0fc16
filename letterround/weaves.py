"""Weaves: a pairing at each house, and the runs that go by them."""

from letterround.counting import product_of
from letterround.errands import errands_fault, signs_by_counts
from letterround.errors import BadNumber, BadWeave
from letterround.joins import rows_joined
from letterround.kinds import has_just, is_number
from letterround.pairings import count_of_pairings, in_order, number_of_pairs, numbered_pairing, pairings_of
from letterround.runs import ask_counts


def all_signs(village, counts):
    """The dict from all houses to the dicts from their signs to their numbers."""
    return {house: signs_by_counts(village, counts, house) for house in village.houses()}


def weave_in_order(village, counts, thing):
    """A weave with each of its pairings in order, None of any object that is none."""
    if not has_just(thing, village.houses()):
        return None
    signs = all_signs(village, counts)
    told = {house: in_order(signs[house], thing[house]) for house in signs}
    return None if None in list(told.values()) else told


def is_weave(village, counts, thing):
    """Tells of any object whether it is a weave."""
    ask_counts(village, counts)
    return weave_in_order(village, counts, thing) is not None


def asked_weave(village, counts, weave):
    """A weave with each of its pairings in order; it raises BadCounts, BadWeave."""
    ask_counts(village, counts)
    told = weave_in_order(village, counts, weave)
    if told is None:
        raise BadWeave(weave)
    return told


def runs_by(village, counts, weave):
    """The ascending list of all runs of a weave, pairs of houses, lesser first."""
    return runs_woven(asked_weave(village, counts, weave))


def runs_woven(weave):
    """The ascending list of all runs of a weave of which the pairings are in order."""
    return sorted([tuple(sorted(row)) for row in rows_joined(weave)])


def count_weaves(village, counts):
    """How many weaves there are."""
    ask_counts(village, counts)
    signs = all_signs(village, counts)
    return product_of([count_of_pairings(list(signs[house].values())) for house in signs])


def weave_at(village, counts, number):
    """The weave with a number."""
    many = count_weaves(village, counts)
    if not is_number(number) or number >= many:
        raise BadNumber(number)
    signs = all_signs(village, counts)
    told = {}
    ahead = number
    for house in signs:
        many = many // count_of_pairings(list(signs[house].values()))
        told[house] = numbered_pairing(signs[house], ahead // many)
        ahead = ahead - (ahead // many) * many
    return told


def weave_number(village, counts, weave):
    """The number of a weave."""
    pairings = asked_weave(village, counts, weave)
    signs = all_signs(village, counts)
    number = 0
    for house in signs:
        number = number * count_of_pairings(list(signs[house].values()))
        number += number_of_pairs(signs[house], pairings[house])
    return number


def all_errands(village, counts):
    """The ascending list of the unlike errands that go by weaves."""
    if errands_fault(village, counts) is not None:
        return []
    signs = all_signs(village, counts)
    weaves = [{}]
    for house in signs:
        pairings = pairings_of(signs[house])
        weaves = [{**weave, house: pairing} for weave in weaves for pairing in pairings]
    found = {tuple(runs_woven(weave)): True for weave in weaves}
    return [list(errands) for errands in sorted(found)]
