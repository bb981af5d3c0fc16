"""[130] to [133]: weaves drawn evenly: how many runs join two signs, where runs end, how many go between two houses."""

import unittest
from collections import Counter
from fractions import Fraction
from itertools import combinations, permutations, product

from letterround.crossings import mean_runs
from letterround.errands import errands_fault
from letterround.errors import BadCounts, NoEnds, NoErrands, NoHouse, NoSign, SameHouse, SameSign
from letterround.joinchances import end_chances, joined_chances, mean_paths, run_chances
from letterround.villages import Village, beside
from letterround.weaves import count_weaves
from tests.helpers import HOUSES, LEDGER, LETTERS, any_objects, bad_tables, chain, lone, naive_ways, raised, star, two
from tests.test_crossings import woven_cases
from tests.test_pairings import members_there, naive_pairings, naive_runs, naive_weaves
from tests.test_roundchances import pair_of

TWOS = ({path: 2 for path in LEDGER}, {house: 2 for house in HOUSES})
COUNTS = (LEDGER, {"a": 2, "b": 0, "c": 1, "d": 1})
NONE = ({path: 0 for path in LEDGER}, {house: 0 for house in HOUSES})


def cases():
    """Triples: a village, counts, all weaves."""
    yield from woven_cases(200)
    for village, numbers, ends in ((star(), (2, 2, 1), (2, 1, 2, 1)), (chain(), (1, 3, 2), (1, 3, 2, 2)),
                                   (chain(), (2, 2, 2), (2, 0, 2, 2)), (two(), (2,), (2, 2)), (two(), (4,), (4, 4)),
                                   (star(), (3, 2, 1), (3, 2, 2, 1))):
        counts = (dict(zip(village.paths(), numbers)), dict(zip(village.houses(), ends)))
        if errands_fault(village, counts) is None and count_weaves(village, counts) <= 30000:
            yield village, counts, naive_weaves(village, counts)


def chances(numbers):
    """The list of the pairs of a number and its chance, ascending, of all numbers as they came."""
    found = Counter(numbers)
    return [(number, pair_of(found[number], sum(found.values()))) for number in sorted(found)]


class Joined(unittest.TestCase):
    def test_signs_joined_in_all_weaves(self):
        for village, counts, weaves in cases():
            for house in village.houses():
                pairings = naive_pairings(members_there(village, counts, house))
                for one, other in permutations([house] + beside(village, house), 2):
                    times = [sum({pair[0][0], pair[1][0]} == {one, other} for pair in pairing) for pairing in pairings]
                    told = joined_chances(village, counts, house, one, other)
                    self.assertEqual(list(told.items()), chances(times))

    def test_joined_at_a_house_of_many(self):
        village = Village(list("abcd"), [("a", "b"), ("a", "c"), ("a", "d")])
        for numbers in ((3, 3, 2, 2), (4, 2, 2, 2), (1, 3, 1, 3), (2, 4, 0, 2), (5, 2, 2, 1), (0, 3, 3, 2), (4, 3, 1, 0)):
            counts = (dict(zip(village.paths(), numbers[1:])), dict(zip("abcd", numbers)))
            pairings = naive_pairings(members_there(village, counts, "a"))
            for one, other in combinations("abcd", 2):
                times = [sum({pair[0][0], pair[1][0]} == {one, other} for pair in pairing) for pairing in pairings]
                self.assertEqual(list(joined_chances(village, counts, "a", one, other).items()), chances(times))


class Runs(unittest.TestCase):
    def test_runs_between_in_all_weaves(self):
        for village, counts, weaves in cases():
            rows = [Counter(naive_runs(weave)) for weave in weaves]
            for one, other in combinations(village.houses(), 2):
                told = run_chances(village, counts, one, other)
                self.assertEqual(list(told.items()), chances(row[(one, other)] for row in rows))
                self.assertEqual(run_chances(village, counts, other, one), told)

    def test_where_runs_end_in_all_weaves(self):
        for village, counts, weaves in cases():
            ways = naive_ways(village)
            rows = [naive_runs(weave) for weave in weaves]
            for house in village.houses():
                ends = counts[1][house]
                if not ends:
                    self.assertEqual(raised(NoEnds, end_chances, village, counts, house).house, house)
                    self.assertEqual(raised(NoEnds, mean_paths, village, counts, house).house, house)
                    continue
                found = Counter(far for row in rows for run in row if house in run for far in run if far != house)
                whole = ends * len(rows)
                self.assertEqual(list(end_chances(village, counts, house).items()),
                                 [(far, pair_of(found[far], whole)) for far in village.houses()])
                paths = sum(found[far] * (len(ways[(house, far)]) - 1) for far in found)
                self.assertEqual(mean_paths(village, counts, house), pair_of(paths, whole))

    def test_fact_of_the_mean(self):
        for village, counts, _ in cases():
            for one, other in permutations(village.houses(), 2):
                told = run_chances(village, counts, one, other)
                mean = sum(number * Fraction(*told[number]) for number in told)
                self.assertEqual(mean, Fraction(*mean_runs(village, counts, one, other)))
                self.assertEqual(sum(Fraction(*chance) for chance in told.values()), 1)
                if counts[1][one]:
                    self.assertEqual(mean, counts[1][one] * Fraction(*end_chances(village, counts, one)[other]))

    def test_fact_a_pass_meets_each_of_a_sign_alike(self):
        for house, weaves in (("b", naive_weaves(star(), (TWOS[0], {**TWOS[1], "b": 0}))),):
            found = Counter(pair for weave in weaves for pair in weave[house])
            for one, other in combinations("acd", 2):
                self.assertEqual(len({found[((one, x), (other, y))] for x in (0, 1) for y in (0, 1)}), 1)


class Told(unittest.TestCase):
    def test_examples_and_edges(self):
        told = {0: (2, 5), 1: (8, 15), 2: (1, 15)}
        self.assertEqual((joined_chances(star(), TWOS, "b", "a", "c"), run_chances(star(), TWOS, "a", "c")), (told, told))
        self.assertEqual(end_chances(star(), TWOS, "a"), {"a": (0, 1), "b": (1, 3), "c": (1, 3), "d": (1, 3)})
        self.assertEqual(mean_paths(star(), TWOS, "a"), (5, 3))
        self.assertEqual(joined_chances(star(), COUNTS, "b", "a", "c"), {1: (1, 1)})
        self.assertEqual(run_chances(star(), COUNTS, "a", "b"), {0: (1, 1)})
        self.assertEqual(end_chances(star(), COUNTS, "d"), {"a": (1, 1), "b": (0, 1), "c": (0, 1), "d": (0, 1)})
        self.assertEqual(joined_chances(star(), NONE, "b", "b", "a"), {0: (1, 1)})
        self.assertEqual(run_chances(star(), NONE, "c", "d"), {0: (1, 1)})
        self.assertEqual(raised(NoEnds, end_chances, lone(), ({}, {"x": 0}), "x").house, "x")

    def test_errors_in_order(self):
        for function, rest in ((joined_chances, 3), (end_chances, 1), (mean_paths, 1), (run_chances, 2)):
            bad = any_objects() + [LEDGER, (LEDGER,), (LEDGER, LETTERS, 1), (LETTERS, LEDGER)]
            bad += [(gone, LETTERS) for gone in bad_tables(LEDGER)] + [(LEDGER, ends) for ends in bad_tables(LETTERS)]
            for thing in bad:
                self.assertIs(raised(BadCounts, function, star(), thing, *[None] * rest).thing, thing)
            for ends in ({**COUNTS[1], "b": 1}, {**COUNTS[1], "a": 4}, {**COUNTS[1], "c": 3}):
                paper = errands_fault(star(), (LEDGER, ends))
                self.assertEqual(raised(NoErrands, function, star(), (LEDGER, ends), *[None] * rest).paper, paper)

    def test_wrong_houses_and_signs(self):
        for thing in any_objects():
            self.assertIs(raised(NoHouse, joined_chances, star(), COUNTS, thing, None, None).thing, thing)
            self.assertIs(raised(NoSign, joined_chances, star(), COUNTS, "b", thing, None).thing, thing)
            self.assertIs(raised(NoSign, joined_chances, star(), COUNTS, "b", "a", thing).thing, thing)
            self.assertIs(raised(NoHouse, run_chances, star(), COUNTS, thing, None).thing, thing)
            self.assertIs(raised(NoHouse, run_chances, star(), COUNTS, "a", thing).thing, thing)
            for function in (end_chances, mean_paths):
                self.assertIs(raised(NoHouse, function, star(), COUNTS, thing).thing, thing)
        self.assertEqual(raised(NoSign, joined_chances, star(), COUNTS, "a", "c", "c").thing, "c")
        self.assertEqual(raised(SameSign, joined_chances, star(), COUNTS, "b", "b", "b").thing, "b")
        self.assertEqual(raised(SameHouse, run_chances, star(), COUNTS, "c", "c").thing, "c")
        for function in (end_chances, mean_paths):
            self.assertEqual(raised(NoEnds, function, star(), COUNTS, "b").house, "b")

    def test_numbers_are_apart(self):
        for numbers in product((2, 4), repeat=3):
            counts = (dict(zip(LEDGER, numbers)), {"a": numbers[0], "b": 2, "c": numbers[1], "d": numbers[2]})
            for told in (joined_chances(star(), counts, "b", "a", "c"), run_chances(star(), counts, "a", "c")):
                self.assertTrue(all(over > 0 for over, under in told.values()))
                self.assertEqual(list(told), sorted(told))


if __name__ == "__main__":
    unittest.main()
