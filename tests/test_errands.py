"""[95], [96], [104]: the rule for errands, errands built, counts of paths alone."""

import unittest
from functools import lru_cache
from itertools import combinations_with_replacement, product

from letterround.errands import errands_fault, errands_with
from letterround.errors import BadCounts, BadNumber, BadPathCounts, NoHouse
from letterround.lacks import lacks
from letterround.pathcounts import ends_for, errands_of, run_numbers
from letterround.roundlots import lot_numbers
from letterround.runs import counts_of, is_errands
from letterround.villages import beside
from tests.helpers import (HOUSES, LEDGER, LETTERS, VILLAGES, all_ledgers, any_objects, bad_tables, lone, naive_ways,
                           raised, rounds_by_ledger, small_cases, star, two)

COUNTS = (LEDGER, {"a": 2, "b": 0, "c": 1, "d": 1})
NONE = {path: 0 for path in LEDGER}
NOBODY = {house: 0 for house in HOUSES}


def most_runs(village):
    return 3 if len(village) > 4 else 4


@lru_cache(maxsize=None)
def all_counts(make):
    """The dict from pairs (numbers of paths, numbers of houses) to errands with these, few runs, one by one."""
    village = make()
    ways = naive_ways(village)
    runs = [(one, other) for one in village.houses() for other in village.houses() if one < other]
    told = {}
    for many in range(most_runs(village) + 1):
        for errands in combinations_with_replacement(runs, many):
            steps = [tuple(sorted(step)) for run in errands for step in zip(ways[run], ways[run][1:])]
            ends = [house for run in errands for house in run]
            key = (tuple(steps.count(path) for path in village.paths()), tuple(map(ends.count, village.houses())))
            told.setdefault(key, errands)
    return told


def small_counts(village, most):
    """All counts of a small village with few ends."""
    for gone in all_ledgers(village, 2):
        for numbers in product(range(most), repeat=len(village)):
            if sum(numbers) <= 2 * most_runs(village):
                yield gone, dict(zip(village.houses(), numbers))


class Rule(unittest.TestCase):
    def test_just_one_errands_or_a_fault(self):
        for make in VILLAGES:
            village = make()
            there = all_counts(make)
            for counts in list(small_counts(village, 4 if len(village) < 5 else 3))[::2]:
                fault, told = errands_fault(village, counts), errands_with(village, counts)
                key = (tuple(counts[0].values()), tuple(counts[1].values()))
                self.assertEqual(fault is None, key in there)
                self.assertEqual(fault, self.naive_fault(village, *counts))
                if fault is not None:
                    self.assertIsNone(told)
                else:
                    self.assertIs(is_errands(village, told), True)
                    self.assertEqual({run.__class__ for run in told} | {tuple}, {tuple})
                    self.assertEqual(counts_of(village, told), counts)
            for by_path, by_house in there:
                counts = (dict(zip(village.paths(), by_path)), dict(zip(village.houses(), by_house)))
                self.assertIsNone(errands_fault(village, counts))
                self.assertEqual(counts_of(village, errands_with(village, counts)), counts)

    def naive_fault(self, village, by_path, by_house):
        for house in village.houses():
            signs = {other: by_path[tuple(sorted([house, other]))] for other in beside(village, house)}
            signs[house] = by_house[house]
            if sum(signs.values()) % 2:
                return "odd", house
            for sign in sorted(signs):
                if signs[sign] > sum(signs.values()) - signs[sign]:
                    return "much", house, sign
        return None

    def test_examples_and_edges(self):
        self.assertIsNone(errands_fault(star(), COUNTS))
        self.assertEqual(sorted(errands_with(star(), COUNTS)), [("a", "c"), ("a", "d")])
        self.assertEqual(errands_with(star(), (NONE, NOBODY)), [])
        self.assertEqual(errands_with(lone(), ({}, {"x": 0})), [])
        self.assertEqual(errands_fault(lone(), ({}, {"x": 1})), ("odd", "x"))
        self.assertEqual(errands_fault(lone(), ({}, {"x": 2})), ("much", "x", "x"))
        self.assertEqual(errands_fault(star(), (LEDGER, {**COUNTS[1], "b": 1})), ("odd", "b"))
        self.assertEqual(errands_fault(star(), (LEDGER, {**COUNTS[1], "a": 4})), ("much", "a", "a"))
        self.assertEqual(errands_fault(star(), (LEDGER, {**COUNTS[1], "a": 0})), ("much", "a", "b"))
        self.assertEqual(errands_fault(two(), ({("a", "x"): 2}, {"a": 2, "x": 1})), ("odd", "x"))
        self.assertEqual(errands_with(two(), ({("a", "x"): 2}, {"a": 2, "x": 2})), [("a", "x")] * 2)

    def test_fact_counts_added(self):
        there = list(all_counts(star))
        for one in there[::9]:
            for other in there[::14]:
                added = [[x + y for x, y in zip(*pair)] for pair in zip(one, other)]
                counts = (dict(zip(LEDGER, added[0])), dict(zip(HOUSES, added[1])))
                self.assertIsNone(errands_fault(star(), counts))
                self.assertEqual(counts_of(star(), errands_with(star(), counts)), counts)

    def test_wrong(self):
        bad = any_objects() + [(LEDGER,), (LEDGER, COUNTS[1], 1), (COUNTS[1], LEDGER), {0: LEDGER, 1: COUNTS[1]}, LEDGER]
        bad += [(gone, COUNTS[1]) for gone in bad_tables(LEDGER)] + [(LEDGER, ends) for ends in bad_tables(LETTERS)]
        for thing in bad:
            self.assertIs(raised(BadCounts, errands_fault, star(), thing).thing, thing)
            self.assertIs(raised(BadCounts, errands_with, star(), thing).thing, thing)


class PathsAlone(unittest.TestCase):
    def test_ends_and_runs_of_all_small_villages(self):
        for make in VILLAGES:
            village = make()
            by_path = {}
            for gone, ends in all_counts(make):
                by_path.setdefault(gone, []).append(ends)
            for gone in all_ledgers(village, 2):
                fewest, most = run_numbers(village, gone)
                self.assertEqual(most, sum(gone.values()))
                there = by_path.get(tuple(gone.values()), [])
                if most <= most_runs(village):
                    self.assertEqual({sum(ends) // 2 for ends in there}, set(range(fewest, most + 1)))
                    for place, house in enumerate(village.houses()):
                        self.assertEqual(ends_for(village, gone, house), sorted({ends[place] for ends in there}))
                for number in range(most + 3):
                    told = errands_of(village, gone, number)
                    if fewest <= number <= most:
                        self.assertEqual((len(told), counts_of(village, told)[0]), (number, gone))
                        self.assertIs(is_errands(village, told), True)
                    else:
                        self.assertIsNone(told)

    def test_houses_each_by_itself(self):
        gone = {("a", "b"): 3, ("b", "c"): 1, ("b", "d"): 2}
        for ends in product(*[ends_for(star(), gone, house) for house in HOUSES]):
            counts = (gone, dict(zip(HOUSES, ends)))
            self.assertEqual(counts_of(star(), errands_with(star(), counts)), counts)

    def test_examples_and_edges(self):
        self.assertEqual(ends_for(star(), LEDGER, "b"), [0, 2, 4])
        self.assertEqual(run_numbers(star(), LEDGER), (2, 4))
        ones = {path: 1 for path in LEDGER}
        self.assertEqual((ends_for(star(), ones, "b"), run_numbers(star(), ones)), ([1, 3], (2, 3)))
        self.assertEqual((ends_for(lone(), {}, "x"), run_numbers(lone(), {})), ([0], (0, 0)))
        self.assertEqual(errands_of(lone(), {}, 0), [])
        self.assertEqual(errands_of(star(), NONE, 0), [])
        self.assertIsNone(errands_of(star(), NONE, 1))
        self.assertEqual(ends_for(star(), {**NONE, ("a", "b"): 3}, "b"), [3])
        self.assertIsNone(errands_of(star(), LEDGER, 999999999))

    def test_fewest_runs_and_lots(self):
        for village, letters in small_cases(4):
            for numbers in rounds_by_ledger(village, letters):
                ledger = dict(zip(village.paths(), numbers))
                fewest = run_numbers(village, ledger)[0]
                self.assertEqual(lot_numbers(village, letters, ledger)[1], sum(letters.values()) - fewest)
                self.assertGreaterEqual(2 * fewest, sum(lacks(village, ledger).values()))

    def test_wrong(self):
        for thing in any_objects() + bad_tables(LEDGER):
            self.assertIs(raised(BadPathCounts, ends_for, star(), thing, None).thing, thing)
            self.assertIs(raised(BadPathCounts, run_numbers, star(), thing).thing, thing)
            self.assertIs(raised(BadPathCounts, errands_of, star(), thing, None).thing, thing)
        for thing in any_objects():
            self.assertIs(raised(NoHouse, ends_for, star(), LEDGER, thing).thing, thing)
            self.assertIs(raised(BadNumber, errands_of, star(), LEDGER, thing).thing, thing)


if __name__ == "__main__":
    unittest.main()
