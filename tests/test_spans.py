"""[115] to [117]: counts that are not sure, what branches let by parities, how many runs."""

import unittest
from itertools import product
from random import Random

from letterround.errors import BadSpans, NoHouse, NoPath
from letterround.errands import errands_with
from letterround.runs import counts_of
from letterround.spans import (branch_numbers, end_span, fewest_possible, is_possible, most_possible, path_span,
                               possible_counts)
from letterround.villages import Village, beside
from letterround.ways import beyond
from tests.helpers import HOUSES, LEDGER, VILLAGES, any_objects, bad_spans, lone, raised, star, two

EXAMPLE = (dict.fromkeys(LEDGER, (0, 3)), {"a": (1, 1), "b": (0, 2), "c": (1, 1), "d": (1, 1)})
SIX = Village(list("abcdef"), [("a", "b"), ("b", "c"), ("b", "d"), ("d", "e"), ("d", "f")])


def keeps_rule(village, house, by_path, by_house):
    """Tells whether at a house all signs are even together, and none is more than all others."""
    signs = [by_path[path] for path in by_path if house in path] + [by_house[house]]
    return sum(signs) % 2 == 0 and 2 * max(signs) <= sum(signs)


def numbers_in(spans):
    """All dicts of numbers in a dict of spans."""
    for numbers in product(*[range(least, most + 1) for least, most in spans.values()]):
        yield dict(zip(spans, numbers))


def naive_possible(village, spans):
    """The list of all possible counts, gone through one by one, houses each by itself."""
    told = []
    for by_path in numbers_in(spans[0]):
        rows = []
        for house in village.houses():
            least, most = spans[1][house]
            rows.append([ends for ends in range(least, most + 1) if keeps_rule(village, house, by_path, {house: ends})])
        told += [(by_path, dict(zip(village.houses(), ends))) for ends in product(*rows)]
    return told


def naive_branch(village, spans, house, other):
    """The set of the numbers that the path to other can have by what is beyond it."""
    there = beyond(village, house, other)
    paths = [path for path in village.paths() if set(path) & set(there)]
    rim = tuple(sorted((house, other)))
    told = set()
    for by_path in numbers_in({path: spans[0][path] for path in paths}):
        if by_path[rim] not in told:
            good = True
            for far in there:
                least, most = spans[1][far]
                good = good and any(keeps_rule(village, far, by_path, {far: ends}) for ends in range(least, most + 1))
            if good:
                told.add(by_path[rim])
    return told


def by_parities(numbers):
    """The pair of the pairs of the least and the greatest even and odd ones of some numbers."""
    rows = [[number for number in numbers if number % 2 == parity] for parity in (0, 1)]
    return tuple((min(row), max(row)) if row else None for row in rows)


def some_spans(seed, village, widest, highest):
    """Spans of a village, wide and narrow ones."""
    random = Random(seed)

    def span():
        wide = random.choice([0, 0, 1, 2, widest])
        least = random.randrange(random.choice([2, 2, highest]))
        return least, least + wide

    return {path: span() for path in village.paths()}, {house: span() for house in village.houses()}


def cases(many):
    """Pairs of a small village and spans."""
    for make in VILLAGES + (lambda: SIX,):
        village = make()
        for seed in range(many):
            yield village, some_spans(seed, village, 3 if len(village) < 6 else 2, 3)
            yield village, some_spans(seed, village, 2, 9)
    # What two signs lack to let a third one's least they have by odd numbers at both alone, or by even ones.
    for pair in ((1, 2), (2, 3), (0, 1)):
        for most in (4, 9, 10):
            ends = {"a": (0, 12), "b": (0, most), "c": (0, 12), "d": (0, 12)}
            yield star(), ({("a", "b"): (0, 12), ("b", "c"): pair, ("b", "d"): pair}, {**ends, "b": (most, most)})
            yield star(), ({("a", "b"): (most, most), ("b", "c"): pair, ("b", "d"): pair}, ends)
    village = two()
    for spans in product([(0, 4), (1, 1), (2, 2), (2, 5), (5, 6)], repeat=3):
        yield village, ({("a", "x"): spans[0]}, {"a": spans[1], "x": spans[2]})


class Spans(unittest.TestCase):
    def test_possible_counts_paths_ends_and_runs_of_all(self):
        there = 0
        for village, spans in cases(60):
            found = naive_possible(village, spans)
            there += bool(found)
            told = possible_counts(village, spans)
            if not found:
                self.assertIsNone(told)
            else:
                self.assertIn(told, found)
                self.assertIs(is_possible(village, spans, told), True)
                self.assertEqual(counts_of(village, errands_with(village, told)), told)
            for one, other in village.paths():
                numbers = {by_path[(one, other)] for by_path, by_house in found}
                self.assertEqual(path_span(village, spans, one, other), by_parities(numbers))
                self.assertEqual(path_span(village, spans, other, one), by_parities(numbers))
                self.check_no_gap(numbers)
            for house in village.houses():
                numbers = {by_house[house] for by_path, by_house in found}
                self.assertEqual(end_span(village, spans, house), by_parities(numbers))
            runs = {sum(by_house.values()) // 2 for by_path, by_house in found}
            self.assertEqual((fewest_possible(village, spans), most_possible(village, spans)),
                             (min(runs), max(runs)) if runs else (None, None))
            self.assertEqual(runs, set(range(min(runs), max(runs) + 1)) if runs else set())
        self.assertGreater(there, 100)

    def check_no_gap(self, numbers):
        """Of each parity all from least to greatest are there, of all of them neighbours differ by 2 at most."""
        for span in by_parities(numbers):
            if span:
                self.assertTrue(set(range(span[0], span[1] + 1, 2)) <= numbers)
        row = sorted(numbers)
        self.assertTrue(all(behind - ahead <= 2 for ahead, behind in zip(row, row[1:])))

    def test_branch_numbers_of_all(self):
        for village, spans in cases(25):
            for house, other in [pair for path in village.paths() for pair in (path, path[::-1])]:
                numbers = naive_branch(village, spans, house, other)
                self.assertEqual(branch_numbers(village, spans, house, other), by_parities(numbers))
                self.check_no_gap(numbers)

    def test_is_possible_of_all_counts_near(self):
        for village, spans in list(cases(6))[::2]:
            found = naive_possible(village, spans)
            wider = tuple({key: (max(0, table[key][0] - 1), table[key][1] + 1) for key in table} for table in spans)
            if len(village) < 5:
                near = list(product(numbers_in(wider[0]), numbers_in(wider[1])))
                for counts in near[::1 + len(near) // 2000] + found:
                    self.assertIs(is_possible(village, spans, counts), counts in found)
                    self.assertIs(is_possible(village, spans, list(counts)), counts in found)

    def test_examples_and_edges(self):
        self.assertEqual(branch_numbers(star(), EXAMPLE, "b", "a"), (None, (1, 1)))
        self.assertEqual(branch_numbers(star(), EXAMPLE, "a", "b"), ((0, 2), (1, 3)))
        ones = ({path: 1 for path in LEDGER}, {house: 1 for house in HOUSES})
        self.assertEqual(possible_counts(star(), EXAMPLE), ones)
        self.assertEqual((fewest_possible(star(), EXAMPLE), most_possible(star(), EXAMPLE)), (2, 2))
        self.assertEqual((path_span(star(), EXAMPLE, "b", "c"), end_span(star(), EXAMPLE, "b")), ((None, (1, 1)), (None, (1, 1))))
        none = ({}, {"x": (0, 5)})
        self.assertEqual((possible_counts(lone(), none), end_span(lone(), none, "x")), (({}, {"x": 0}), ((0, 0), None)))
        self.assertEqual((fewest_possible(lone(), none), most_possible(lone(), none)), (0, 0))
        ends = ({}, {"x": (1, 5)})
        self.assertEqual((possible_counts(lone(), ends), end_span(lone(), ends, "x")), (None, (None, None)))
        self.assertEqual((fewest_possible(lone(), ends), most_possible(lone(), ends)), (None, None))
        odd = (EXAMPLE[0], {**EXAMPLE[1], "b": (0, 0)})
        self.assertIsNone(possible_counts(star(), odd))
        self.assertEqual(path_span(star(), odd, "a", "b"), (None, None))
        self.assertEqual(branch_numbers(star(), odd, "a", "b"), ((0, 2), None))
        wide = (dict.fromkeys(LEDGER, (0, 100)), dict.fromkeys(HOUSES, (0, 100)))
        self.assertEqual((fewest_possible(star(), wide), most_possible(star(), wide)), (0, 200))
        self.assertEqual(path_span(star(), wide, "a", "b"), ((0, 100), (1, 99)))
        self.assertIs(is_possible(star(), wide, ({path: 0 for path in LEDGER}, {house: 0 for house in HOUSES})), True)

    def test_is_possible_of_any_objects(self):
        ones = ({path: 1 for path in LEDGER}, {house: 1 for house in HOUSES})
        bad = any_objects() + [ones[0], ones[::-1], (*ones, 1), (ones[0], {**ones[1], "a": True}), {0: ones[0], 1: ones[1]},
                               (ones[0], {**ones[1], "b": 3}), ({**ones[0], ("a", "b"): 2}, ones[1]), EXAMPLE]
        for thing in bad:
            self.assertIs(is_possible(star(), EXAMPLE, thing), False)

    def test_wrong(self):
        bad = any_objects() + [EXAMPLE[0], EXAMPLE[::-1], (*EXAMPLE, 1), EXAMPLE[:1], {0: EXAMPLE[0], 1: EXAMPLE[1]}]
        bad += [(table, EXAMPLE[1]) for table in bad_spans(EXAMPLE[0])]
        bad += [(EXAMPLE[0], table) for table in bad_spans(EXAMPLE[1])]
        for function, rest in ((is_possible, 1), (possible_counts, 0), (branch_numbers, 2), (path_span, 2), (end_span, 1),
                               (fewest_possible, 0), (most_possible, 0)):
            for thing in bad:
                self.assertIs(raised(BadSpans, function, star(), thing, *[None] * rest).thing, thing)
        nothing = (EXAMPLE[0], {**EXAMPLE[1], "b": (0, 0)})
        for spans in (EXAMPLE, nothing):
            for thing in any_objects():
                self.assertIs(raised(NoHouse, end_span, star(), spans, thing).thing, thing)
                for function in (branch_numbers, path_span):
                    self.assertIs(raised(NoHouse, function, star(), spans, thing, None).thing, thing)
                    self.assertIs(raised(NoHouse, function, star(), spans, "a", thing).thing, thing)
            for function in (branch_numbers, path_span):
                for pair in (("a", "c"), ("b", "b"), ("d", "a")):
                    found = raised(NoPath, function, star(), spans, *pair)
                    self.assertEqual((found.one, found.other), pair)
        self.assertEqual(beside(star(), "b"), ["a", "c", "d"])


if __name__ == "__main__":
    unittest.main()
