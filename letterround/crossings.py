"""How often signs are joined in a weave, weaves with such crossings, and runs between two houses in all weaves."""

from math import factorial

from letterround.counting import product_of
from letterround.errors import BadCrossings, NoWeave
from letterround.joined import turns_of_way
from letterround.kinds import is_table
from letterround.lowest import lowest
from letterround.pairings import count_of_pairings
from letterround.runs import ask_counts
from letterround.villages import ask_house, path_between
from letterround.ways import way
from letterround.weaves import all_signs, asked_weave


def sign_pairs(signs):
    """The ascending list of the triples of a house and two of its signs, of all houses."""
    return [(house, one, other) for house in signs for one in signs[house] for other in signs[house] if one < other]


def crossings_of(village, counts, weave):
    """The dict from all triples (house, one, other) to how many of a weave's pairs are of these two signs."""
    pairings = asked_weave(village, counts, weave)
    told = {triple: 0 for triple in sign_pairs(all_signs(village, counts))}
    for house in pairings:
        for one, other in pairings[house]:
            told[(house, one[0], other[0])] += 1
    return told


def count_with_crossings(village, counts, crossings):
    """How many weaves have just these crossings."""
    ask_counts(village, counts)
    signs = all_signs(village, counts)
    triples = sign_pairs(signs)
    if not is_table(crossings, triples):
        raise BadCrossings(crossings)
    joined = {(house, sign): 0 for house in signs for sign in signs[house]}
    for house, one, other in triples:
        joined[(house, one)] += crossings[(house, one, other)]
        joined[(house, other)] += crossings[(house, one, other)]
    if any([joined[(house, sign)] != signs[house][sign] for house, sign in joined]):
        return 0
    ways = product_of([factorial(number) for number in joined.values()])
    return ways // product_of([factorial(crossings[triple]) for triple in triples])


def runs_between(village, counts, one, other):
    """How many runs between two houses there are in all weaves together."""
    ask_counts(village, counts)
    ask_house(village, one)
    ask_house(village, other)
    if one == other:
        return 0
    signs = all_signs(village, counts)
    row = way(village, one, other)
    paths = [path_between(house, further) for house, further in zip(row, row[1:])]
    ways = product_of([counts[1][one], counts[1][other], *[counts[0][path] for path in paths]])
    if ways == 0:
        return 0
    for house, back, further in turns_of_way(row):
        for sign in (back, further):
            signs[house][sign] -= 1
    return ways * product_of([count_of_pairings(list(signs[house].values())) for house in signs])


def mean_runs(village, counts, one, other):
    """The mean number of runs between two houses in a weave, a fraction."""
    runs = runs_between(village, counts, one, other)
    many = product_of([count_of_pairings(list(signs.values())) for signs in all_signs(village, counts).values()])
    if many == 0:
        raise NoWeave()
    return lowest(runs, many)
