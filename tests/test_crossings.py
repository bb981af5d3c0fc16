"""[111] to [114]: crossings of weaves, runs between two houses in all weaves, exchanges."""

import unittest
from collections import Counter
from fractions import Fraction
from itertools import combinations, product

from letterround.crossings import count_with_crossings, crossings_of, mean_runs, runs_between
from letterround.errors import BadCrossings, BadWeave, NoHouse, NoWeave
from letterround.exchanges import exchange_distance, exchange_row, exchanges
from letterround.villages import Village, beside
from letterround.weaves import count_weaves, is_weave, weave_at, weave_number
from tests.helpers import HOUSES, LEDGER, any_objects, bad_tables, chain, lone, raised, star, tree, two
from tests.test_pairings import (COUNTS, NONE, check_counts, members_there, naive_pairings, naive_runs, naive_weaves,
                                 small_counts)

ODD = (COUNTS[0], {"a": 1, "b": 0, "c": 2, "d": 2})


def triples_there(village):
    """All triples of a house and two of its signs, ascending."""
    told = []
    for house in village.houses():
        told += [(house, *pair) for pair in combinations(sorted([house] + beside(village, house)), 2)]
    return told


def naive_crossings(village, weave):
    found = Counter((house, *sorted(member[0] for member in pair)) for house in weave for pair in weave[house])
    return {triple: found[triple] for triple in triples_there(village)}


def woven_cases(most):
    """Triples: a village, counts, all weaves, few of them."""
    for village, counts in small_counts():
        if 0 < count_weaves(village, counts) <= most:
            yield village, counts, naive_weaves(village, counts)


class Crossings(unittest.TestCase):
    def test_crossings_of_all_weaves_of_small_villages(self):
        for village, counts, weaves in woven_cases(70):
            found = Counter()
            for weave in weaves:
                told = crossings_of(village, counts, weave)
                there = naive_crossings(village, weave)
                self.assertEqual(list(told.items()), list(there.items()))
                turned = {house: tuple(pair[::-1] for pair in weave[house][::-1]) for house in reversed(list(weave))}
                self.assertEqual(crossings_of(village, counts, turned), told)
                found[tuple(there.values())] += 1
            for numbers in found:
                crossings = dict(zip(triples_there(village), numbers))
                self.assertEqual(count_with_crossings(village, counts, crossings), found[numbers])
                for triple in crossings:
                    for more in (-1, 1):
                        other = {**crossings, triple: crossings[triple] + more}
                        if other[triple] >= 0:
                            self.assertEqual(count_with_crossings(village, counts, other), 0)

    def test_all_crossings_together_are_all_weaves(self):
        for village, counts in ((star(), COUNTS), (star(), (COUNTS[0], dict.fromkeys(HOUSES, 2))),
                                (two(), ({("a", "x"): 2}, {"a": 2, "x": 2}))):
            triples = triples_there(village)
            if len(triples) > 9:
                triples = [triple for triple in triples if triple[0] == "b"]
            rest = crossings_of(village, counts, weave_at(village, counts, 0))
            whole = sum(count_with_crossings(village, counts, {**rest, **dict(zip(triples, numbers))})
                        for numbers in product(range(3), repeat=len(triples)))
            self.assertEqual(whole, count_weaves(village, counts))

    def test_crossings_that_do_not_add_up(self):
        good = crossings_of(star(), COUNTS, weave_at(star(), COUNTS, 5))
        self.assertEqual(good, {("a", "a", "b"): 2, ("b", "a", "b"): 0, ("b", "a", "c"): 1, ("b", "a", "d"): 1,
                                ("b", "b", "c"): 0, ("b", "b", "d"): 0, ("b", "c", "d"): 1, ("c", "b", "c"): 2,
                                ("d", "b", "d"): 2})
        self.assertEqual(count_with_crossings(star(), COUNTS, good), 64)
        for triple in good:
            self.assertEqual(count_with_crossings(star(), COUNTS, {**good, triple: good[triple] + 1}), 0)
            self.assertEqual(count_with_crossings(star(), COUNTS, {**good, triple: 999999999}), 0)
        self.assertEqual(count_with_crossings(star(), COUNTS, dict.fromkeys(good, 0)), 0)
        self.assertEqual(count_with_crossings(star(), NONE, dict.fromkeys(good, 0)), 1)
        self.assertEqual((crossings_of(lone(), ({}, {"x": 0}), {"x": []}), count_with_crossings(lone(), ({}, {"x": 0}), {})),
                         ({}, 1))
        self.assertEqual(count_with_crossings(lone(), ({}, {"x": 2}), {}), 0)

    def test_wrong(self):
        check_counts(self, crossings_of, [None])
        check_counts(self, count_with_crossings, [None])
        good = crossings_of(star(), COUNTS, weave_at(star(), COUNTS, 5))
        bad = any_objects() + bad_tables(good) + [{**good, ("b", "c", "a"): 0}, {**good, ("a", "b"): 2}]
        for thing in bad:
            self.assertIs(raised(BadCrossings, count_with_crossings, star(), COUNTS, thing).thing, thing)
            self.assertIs(raised(BadCrossings, count_with_crossings, star(), ODD, thing).thing, thing)
        check_weaves(self, lambda weave: crossings_of(star(), COUNTS, weave))


def check_weaves(test, function):
    """Checks that what is no weave is refused."""
    good = weave_at(star(), COUNTS, 9)
    bad = any_objects() + [{house: good[house] for house in "abc"}, {**good, "zz": []}, {**good, "a": None}]
    bad += [{**good, "a": good["a"][:1]}, {**good, "b": good["b"][1:] + good["b"][1:]}, {**good, "a": good["c"]}]
    for thing in bad:
        test.assertIs(raised(BadWeave, function, thing).thing, thing)


class Runs(unittest.TestCase):
    def test_runs_between_in_all_weaves(self):
        for village, counts, weaves in woven_cases(200):
            found = Counter(run for weave in weaves for run in naive_runs(weave))
            for one, other in product(village.houses(), repeat=2):
                many = found[tuple(sorted([one, other]))] if one != other else 0
                self.assertEqual(runs_between(village, counts, one, other), many)
                mean = Fraction(many, len(weaves))
                self.assertEqual(mean_runs(village, counts, one, other), (mean.numerator, mean.denominator))

    def test_where_there_is_no_weave(self):
        for village, counts in small_counts():
            if count_weaves(village, counts) == 0:
                one, other = village.houses()[0], village.houses()[-1]
                self.assertEqual(runs_between(village, counts, one, other), 0)
                raised(NoWeave, mean_runs, village, counts, one, other)
                raised(NoWeave, mean_runs, village, counts, one, one)

    def test_examples_and_edges(self):
        self.assertEqual((runs_between(star(), COUNTS, "a", "c"), mean_runs(star(), COUNTS, "c", "a")), (64, (1, 1)))
        self.assertEqual((runs_between(star(), COUNTS, "a", "b"), mean_runs(star(), COUNTS, "a", "b")), (0, (0, 1)))
        self.assertEqual((runs_between(star(), COUNTS, "a", "a"), mean_runs(star(), COUNTS, "a", "a")), (0, (0, 1)))
        self.assertEqual((runs_between(star(), NONE, "a", "c"), mean_runs(star(), NONE, "a", "c")), (0, (0, 1)))
        self.assertEqual(mean_runs(lone(), ({}, {"x": 0}), "x", "x"), (0, 1))
        self.assertEqual(runs_between(star(), ODD, "c", "d"), 0)
        village = Village(list("abc"), [("a", "b"), ("b", "c")])
        counts = (dict.fromkeys(village.paths(), 2), {"a": 2, "b": 2, "c": 2})
        self.assertEqual((runs_between(village, counts, "a", "b"), runs_between(village, counts, "a", "c")), (32, 32))

    def test_wrong(self):
        for function in (runs_between, mean_runs):
            check_counts(self, function, [None, None])
            for counts in (COUNTS, ODD):
                for thing in any_objects():
                    self.assertIs(raised(NoHouse, function, star(), counts, thing, None).thing, thing)
                    self.assertIs(raised(NoHouse, function, star(), counts, "a", thing).thing, thing)


def are_one_exchange_off(one, other):
    """Tells of two unlike weaves whether, at one house, two pairs of one have their four members in two of other's."""
    away = [house for house in one if one[house] != other[house]]
    if len(away) != 1:
        return False
    gone = [pair for pair in one[away[0]] if pair not in other[away[0]]]
    return len(gone) == 2


def naive_distances(weaves, start):
    """The list of the distances of all weaves from one, found by going on from it step by step."""
    near = {start: 0}
    ahead = [start]
    while ahead:
        place = ahead.pop(0)
        for further, weave in enumerate(weaves):
            if further not in near and are_one_exchange_off(weaves[place], weave):
                near[further] = near[place] + 1
                ahead.append(further)
    return [near[place] for place in range(len(weaves))]


class Exchanges(unittest.TestCase):
    def test_exchanges_in_all_weaves_of_small_villages(self):
        for village, counts, weaves in woven_cases(30):
            for weave in weaves:
                there = [other for other in weaves if are_one_exchange_off(weave, other)]
                self.assertEqual(exchanges(village, counts, weave), there)
                turned = {house: tuple([list(member) for member in pair[::-1]] for pair in weave[house][::-1])
                          for house in reversed(list(weave))}
                self.assertEqual(exchanges(village, counts, turned), there)
                numbers = [weave_number(village, counts, other) for other in there]
                self.assertEqual(numbers, sorted(numbers))

    def test_distances_and_rows_between_all_weaves(self):
        for village, counts, weaves in woven_cases(70):
            for start in range(0, len(weaves), 1 if len(weaves) < 20 else 17):
                for further, distance in enumerate(naive_distances(weaves, start)):
                    self.check(village, counts, (weaves[start], weaves[further]), distance)

    def check(self, village, counts, ends, distance):
        self.assertEqual(exchange_distance(village, counts, *ends), distance)
        row = exchange_row(village, counts, *ends)
        self.assertEqual((len(row), row[0], row[-1], row.__class__), (distance + 1, ends[0], ends[1], list))
        for ahead, behind in zip(row, row[1:]):
            self.assertTrue(is_weave(village, counts, behind) and are_one_exchange_off(ahead, behind))
            self.assertEqual(list(behind), village.houses())
        pairs = {house: len(ends[0][house]) for house in ends[0]}
        self.assertLessEqual(distance, sum(2 * (pairs[house] - 1) for house in pairs if pairs[house]))

    def test_all_pairings_of_a_house_come_of_one_another(self):
        village = Village(list("abcd"), [("a", "b"), ("a", "c"), ("a", "d")])
        for numbers in ((3, 2, 1, 2), (2, 2, 2, 2), (4, 1, 1, 2), (1, 1, 3, 3), (4, 2, 2, 0), (2, 2, 2, 0)):
            counts = (dict(zip(village.paths(), numbers[1:])), {"a": numbers[0], "b": numbers[1], "c": numbers[2], "d": numbers[3]})
            pairings = naive_pairings(members_there(village, counts, "a"))
            rest = weave_at(village, counts, 0)
            weaves = [{**rest, "a": pairing} for pairing in pairings]
            for start in range(0, len(weaves), 11):
                for further, distance in enumerate(naive_distances(weaves, start)):
                    self.check(village, counts, (weaves[start], weaves[further]), distance)

    def test_examples_and_edges(self):
        found = [exchange_distance(star(), COUNTS, weave_at(star(), COUNTS, one), weave_at(star(), COUNTS, other))
                 for one in range(0, 64, 4) for other in range(0, 64, 4)]
        self.assertEqual((min(found), max(found)), (0, 4))
        at_b = [weave_at(star(), COUNTS, 4 * number) for number in range(8)]
        self.assertEqual(max(exchange_distance(star(), COUNTS, at_b[0], weave) for weave in at_b), 3)
        weave = weave_at(star(), COUNTS, 7)
        turned = {house: weave[house][::-1] for house in weave}
        self.assertEqual((exchange_distance(star(), COUNTS, weave, turned), exchange_row(star(), COUNTS, turned, weave)),
                         (0, [weave]))
        nothing = {house: [] for house in HOUSES}
        self.assertEqual((exchanges(star(), NONE, nothing), exchange_row(star(), NONE, nothing, nothing)), ([], [nothing]))
        self.assertEqual(exchanges(lone(), ({}, {"x": 0}), {"x": ()}), [])

    def test_what_is_told_shares_nothing(self):
        weave = weave_at(star(), COUNTS, 7)
        kept = {house: list(weave[house]) for house in weave}
        for told in (exchanges(star(), COUNTS, weave), exchange_row(star(), COUNTS, weave, weave_at(star(), COUNTS, 44))):
            for other in told:
                for house in HOUSES:
                    other[house].append("spoiled")
            self.assertEqual({len(other[house]) for other in told for house in "acd"}, {3})
            self.assertEqual({len(other["b"]) for other in told}, {4})
        self.assertEqual(weave, kept)

    def test_wrong(self):
        for function, rest in ((exchanges, [None]), (exchange_distance, [None, None]), (exchange_row, [None, None])):
            check_counts(self, function, rest)
        good = weave_at(star(), COUNTS, 9)
        check_weaves(self, lambda weave: exchanges(star(), COUNTS, weave))
        for function in (exchange_distance, exchange_row):
            check_weaves(self, lambda weave: function(star(), COUNTS, weave, None))
            check_weaves(self, lambda weave: function(star(), COUNTS, good, weave))
        many = ({path: 999999999 for path in LEDGER}, {house: 999999999 for house in HOUSES})
        for thing in (good, {house: [] for house in HOUSES}, None):
            self.assertIs(raised(BadWeave, exchange_distance, star(), many, thing, None).thing, thing)
            self.assertIs(raised(BadWeave, exchange_row, star(), many, thing, None).thing, thing)

    def test_other_villages(self):
        for village in (chain(), tree()):
            counts = (dict.fromkeys(village.paths(), 2), {})
            for house in village.houses():
                counts[1][house] = 2 * (len(beside(village, house)) % 2)
            weaves = [weave_at(village, counts, number) for number in range(0, count_weaves(village, counts), 3)]
            for one in weaves[:4]:
                for other in weaves[-4:]:
                    row = exchange_row(village, counts, one, other)
                    self.assertEqual(len(row), exchange_distance(village, counts, one, other) + 1)


if __name__ == "__main__":
    unittest.main()
