"""[37] to [40]: stretches, ladders, paces, tolls."""

import unittest

from letterround.errors import BadLedger, BadLetters, BadNumber, BadTolls, NotCarried
from letterround.greatest import greatest_ledger, least_ledger
from letterround.ladders import is_ladder, ladder, stretches
from letterround.therule import parting_paths
from letterround.tolls import cheapest, count_by_paces, dearest, ledger_with
from letterround.villages import Village, beside
from tests.helpers import (LEDGER, LETTERS, any_objects, bad_tables, chain, ledgers_there, lone, raised, small_cases,
                           star, tree)

LEAST = {path: 1 for path in LEDGER}
NO_ROUND = {("a", "b"): 3, ("b", "c"): 1, ("b", "d"): 1}


def naive_stretches(village, letters):
    """Live paths put together as long as two of them hang together."""
    parts = [[path] for path in parting_paths(village, letters)]
    for house in village.houses():
        at_house = [part for part in parts for path in part if house in path]
        many = sum(tuple(sorted([house, other])) in sum(parts, []) for other in beside(village, house))
        if letters[house] == 0 and many == 2 and at_house[0] is not at_house[1]:
            parts = [part for part in parts if part not in at_house] + [sorted(at_house[0] + at_house[1])]
    return sorted(parts)


def naive_is_ladder(village, letters, there, row):
    steps = [{path: int(path in part) for path in village.paths()} for part in stretches(village, letters)]
    for high, low in zip(row, row[1:]):
        if {path: high[path] - low[path] for path in village.paths()} not in steps:
            return False
    return bool(row) and all(ledger in there for ledger in row)


def some_tolls(village, letters):
    """Tolls of several kinds, some of them below 0, some lists longer than need be."""
    greatest = greatest_ledger(village, letters)
    for kind in range(4):
        told = {}
        for place, path in enumerate(village.paths()):
            numbers = [(11 * place + 7 * time * time + kind) % 9 - (4, 0, 8, 6)[kind] for time in range(9)]
            told[path] = numbers[:greatest[path] + (kind + place) % 2]
        yield told


class Stretches(unittest.TestCase):
    def test_examples(self):
        village = chain()
        self.assertEqual(village.paths(), [("a", "c"), ("a", "d"), ("b", "c")])
        self.assertEqual(stretches(village, {"a": 0, "b": 1, "c": 0, "d": 2}), [[("a", "c"), ("a", "d"), ("b", "c")]])
        self.assertEqual(stretches(village, {"a": 0, "b": 1, "c": 1, "d": 2}), [[("a", "c"), ("a", "d")], [("b", "c")]])
        self.assertEqual(stretches(star(), {**LETTERS, "b": 0}), [[("a", "b")], [("b", "c")], [("b", "d")]])
        self.assertEqual(stretches(star(), {"a": 1, "b": 0, "c": 2, "d": 0}), [[("a", "b"), ("b", "c")]])
        self.assertEqual(stretches(star(), {"a": 4, "b": 0, "c": 0, "d": 0}), [])
        self.assertEqual(stretches(lone(), {"x": 1}), [])

    def test_all_small_villages(self):
        for village, letters in small_cases(4):
            parts = stretches(village, letters)
            self.assertEqual(parts, naive_stretches(village, letters))
            self.assertEqual(sorted(sum(parts, [])), parting_paths(village, letters))
            for ledger in ledgers_there(village, letters):
                for part in parts:
                    self.assertEqual(len({ledger[path] for path in part}), 1)


class Ladders(unittest.TestCase):
    def test_just_one_a_ladder_or_somewhere_less(self):
        for village, letters in small_cases(5):
            there = ledgers_there(village, letters)
            for high in there:
                for low in there:
                    row = ladder(village, letters, high, low)
                    if any(high[path] < low[path] for path in high):
                        self.assertIsNone(row)
                    else:
                        self.assertEqual((row[0], row[-1]), (high, low))
                        self.assertTrue(naive_is_ladder(village, letters, there, row))
                        self.assertIs(is_ladder(village, letters, row), True)
                        self.assertEqual({tuple(ledger) for ledger in row}, {tuple(village.paths())})

    def test_a_longer_way_down(self):
        village = Village(list("abcdef"), [("a", "b"), ("b", "c"), ("c", "d"), ("c", "e"), ("e", "f")])
        letters = {"a": 3, "b": 1, "c": 0, "d": 2, "e": 0, "f": 4}
        row = ladder(village, letters, greatest_ledger(village, letters), least_ledger(village, letters))
        self.assertIs(is_ladder(village, letters, row), True)
        self.assertEqual((row[0], row[-1]), (greatest_ledger(village, letters), least_ledger(village, letters)))

    def test_is_ladder(self):
        two = {**LEAST, ("a", "b"): 2}
        for thing in ([two], [two, LEAST], (two, LEAST), [LEAST]):
            self.assertIs(is_ladder(star(), LETTERS, thing), True)
        for thing in ([], (), [LEAST, two], [two, two], [two, LEAST, LEAST], [NO_ROUND, two], [two, NO_ROUND], two,
                      [{**LEAST, ("a", "b"): True}], [two, {**LEAST, ("a", "b"): True}], {0: two}):
            self.assertIs(is_ladder(star(), LETTERS, thing), False)
        for thing in any_objects():
            self.assertIs(is_ladder(star(), LETTERS, thing), False)
            self.assertIs(is_ladder(star(), LETTERS, [two, thing]), False)
            self.assertIs(is_ladder(star(), LETTERS, [thing, LEAST]), False)
        letters = {"a": 3, "b": 0, "c": 3, "d": 0}
        high = {("a", "b"): 3, ("b", "c"): 3, ("b", "d"): 0}
        low = {("a", "b"): 2, ("b", "c"): 2, ("b", "d"): 0}
        self.assertIs(is_ladder(star(), letters, [high, low]), True)
        self.assertIs(is_ladder(star(), letters, [high, {path: max(high[path] - 2, 0) for path in high}]), False)

    def test_wrong(self):
        for thing in any_objects() + bad_tables(LETTERS):
            self.assertIs(raised(BadLetters, ladder, star(), thing, None, None).thing, thing)
            self.assertIs(raised(BadLetters, is_ladder, star(), thing, []).thing, thing)
            self.assertIs(raised(BadLetters, stretches, star(), thing).thing, thing)
        for thing in any_objects() + bad_tables(LEDGER):
            self.assertIs(raised(BadLedger, ladder, star(), LETTERS, thing, None).thing, thing)
            self.assertIs(raised(BadLedger, ladder, star(), LETTERS, NO_ROUND, thing).thing, thing)
        other = {path: 0 for path in LEDGER}
        self.assertIs(raised(NotCarried, ladder, star(), LETTERS, NO_ROUND, other).thing, NO_ROUND)
        self.assertIs(raised(NotCarried, ladder, star(), LETTERS, LEDGER, other).thing, other)
        self.assertIs(raised(NotCarried, ladder, star(), LETTERS, other, LEDGER).thing, other)


class Paces(unittest.TestCase):
    def test_examples_and_edges(self):
        self.assertEqual(count_by_paces(star(), LETTERS), {6: 1, 8: 1})
        self.assertEqual(count_by_paces(lone(), {"x": 3}), {0: 1})
        self.assertEqual(ledger_with(lone(), {"x": 3}, 0), {})
        self.assertEqual(count_by_paces(star(), {"a": 0, "b": 0, "c": 2, "d": 0}), {0: 1})
        self.assertEqual(ledger_with(star(), LETTERS, 8), LEDGER)
        self.assertIsNone(ledger_with(star(), LETTERS, 7))
        self.assertIsNone(ledger_with(star(), LETTERS, 999999999))

    def test_all_small_villages(self):
        for village, letters in small_cases(5):
            there = ledgers_there(village, letters)
            paces = [2 * sum(ledger.values()) for ledger in there]
            table = count_by_paces(village, letters)
            self.assertEqual(table, {number: paces.count(number) for number in paces})
            self.assertEqual(list(table), sorted(table))
            for number in range(max(paces) + 3):
                ledger = ledger_with(village, letters, number)
                if number in paces:
                    self.assertIn(ledger, there)
                    self.assertEqual((2 * sum(ledger.values()), list(ledger)), (number, village.paths()))
                else:
                    self.assertIsNone(ledger)
            if all(len(part) == 1 for part in stretches(village, letters)):
                self.assertEqual(list(table), list(range(min(paces), max(paces) + 1, 2)))

    def test_wrong(self):
        for thing in any_objects() + bad_tables(LETTERS):
            self.assertIs(raised(BadLetters, count_by_paces, star(), thing).thing, thing)
            self.assertIs(raised(BadLetters, ledger_with, star(), thing, None).thing, thing)
        for thing in any_objects():
            self.assertIs(raised(BadNumber, ledger_with, star(), LETTERS, thing).thing, thing)


class Tolls(unittest.TestCase):
    def test_dearest_and_cheapest_of_all_small_villages(self):
        for village, letters in small_cases(5):
            there = ledgers_there(village, letters)
            for tolls in some_tolls(village, letters):
                sums = [sum(sum(tolls[path][:ledger[path]]) for path in ledger) for ledger in there]
                for function, best in ((dearest, max(sums)), (cheapest, min(sums))):
                    total, ledger = function(village, letters, tolls)
                    self.assertEqual(total, best)
                    self.assertEqual(sums[there.index(ledger)], best)
                    self.assertEqual(list(ledger), village.paths())
                if all(toll >= 0 for row in tolls.values() for toll in row):
                    greatest, least = greatest_ledger(village, letters), least_ledger(village, letters)
                    self.assertEqual(sums[there.index(greatest)], max(sums))
                    self.assertEqual(sums[there.index(least)], min(sums))

    def test_examples(self):
        tolls = {("a", "b"): [1, -5], ("b", "c"): (2,), ("b", "d"): [0, 0, 100]}
        self.assertEqual(dearest(star(), LETTERS, tolls), (3, LEAST))
        self.assertEqual(cheapest(star(), LETTERS, tolls), (-2, LEDGER))
        self.assertEqual(dearest(lone(), {"x": 1}, {}), (0, {}))
        alone = {"a": 0, "b": 0, "c": 2, "d": 0}
        none = {path: 0 for path in LEDGER}
        self.assertEqual(dearest(star(), alone, {path: [] for path in LEDGER}), (0, none))
        self.assertEqual(cheapest(tree(), {**{house: 0 for house in "abcde"}, "a": 1, "e": 1},
                                  {path: [-999999999] for path in tree().paths()})[0], -3 * 999999999)

    def test_wrong(self):
        good = {("a", "b"): [1, 1], ("b", "c"): [1], ("b", "d"): [1]}
        bad = any_objects() + [{**good, ("a", "b"): [1]}, {**good, ("b", "c"): []}, {**good, ("b", "c"): 1},
                               {**good, ("b", "c"): [1, None]}, {**good, ("b", "c"): [True]}, {**good, ("a", "c"): []},
                               {path: good[path] for path in good if path != ("b", "c")}, list(good.items()),
                               {**{path: good[path] for path in good if path != ("b", "c")}, ("c", "b"): [1]}]
        bad += [{**good, ("a", "b"): [1, 1, thing]} for thing in any_objects() if thing.__class__ is not int]
        bad += [{**good, ("a", "b"): thing} for thing in any_objects()]
        for function in (dearest, cheapest):
            for thing in any_objects() + bad_tables(LETTERS):
                self.assertIs(raised(BadLetters, function, star(), thing, None).thing, thing)
            for thing in bad:
                self.assertIs(raised(BadTolls, function, star(), LETTERS, thing).thing, thing)


if __name__ == "__main__":
    unittest.main()
