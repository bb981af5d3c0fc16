"""[81] to [84]: lots of one or two letters each, bags from a post office, bag faults."""

import unittest
from functools import lru_cache
from itertools import product

from letterround.errors import BadLedger, BadLetters, BadNumber, NoHouse
from letterround.offices import are_bags, bag_fault, bag_numbers, bags_of
from letterround.pairlots import pair_lot, pair_numbers
from letterround.roundlots import is_lot, lot_fault, lot_ledger, lot_numbers
from letterround.villages import Village
from letterround.ways import beyond
from tests.helpers import (HOUSES, LEDGER, LETTERS, all_ledgers, any_objects, bad_tables, lone, naive_ledger, raised,
                           rows_of, small_cases, star, two)

NO_B = {"a": 2, "b": 0, "c": 1, "d": 1}
ONES = {path: 1 for path in LEDGER}
NONE = {path: 0 for path in LEDGER}


def bags_there(village, letters, ways, most):
    """The dict from the numbers of ledgers to the sets of how many bags there are, each bag one of ways' keys."""
    houses = village.houses()

    @lru_cache(maxsize=None)
    def found(left, least):
        if not any(left):
            return frozenset({(0, (0,) * len(village.paths()))})
        told = set()
        for bag in ways:
            if bag >= least and sum(bag) <= most and all(x <= y for x, y in zip(bag, left)):
                for many, gone in found(tuple(y - x for x, y in zip(bag, left)), bag):
                    told |= {(many + 1, tuple(x + y for x, y in zip(gone, more))) for more in ways[bag]}
        return frozenset(told)

    by_ledger = {}
    for many, gone in found(tuple(letters[house] for house in houses), (0,) * len(houses)):
        by_ledger.setdefault(gone, set()).add(many)
    return by_ledger


def bags(village, letters, start, most):
    """The dict from the numbers of letters of bags to the sets of ledgers that they can have, from start if it is told."""
    houses = village.houses()
    told = {}
    for part in product(*[range(letters[house] + 1) for house in houses]):
        if 0 < sum(part) <= most:
            rows = rows_of(dict(zip(houses, part)))
            told[part] = {naive_ledger(village, ([start] if start else []) + row) for row in rows}
    return told


def ledgers_near(village, there):
    """The list of all small ledgers, and of those that are there."""
    top = 2 if len(village) > 3 else 5
    told = list(all_ledgers(village, top))
    return told + [dict(zip(village.paths(), gone)) for gone in there if max(gone, default=0) > top]


class BagsOfTwo(unittest.TestCase):
    def test_all_lots_of_one_or_two_letters(self):
        for village, letters in small_cases(5):
            there = bags_there(village, letters, bags(village, letters, None, 2), 2)
            for ledger in ledgers_near(village, there):
                numbers = there.get(tuple(ledger.values()), set())
                told = pair_numbers(village, letters, ledger)
                self.assertEqual(told, (min(numbers), max(numbers)) if numbers else None)
                if numbers:
                    self.assertEqual(numbers, set(range(told[0], told[1] + 1)))
                    self.assertEqual(told[1], lot_numbers(village, letters, ledger)[1])
                for number in range(1, max(numbers, default=1) + 2):
                    lot = pair_lot(village, letters, ledger, number)
                    if number not in numbers:
                        self.assertIsNone(lot)
                        continue
                    self.assertEqual((len(lot), {len(row) for row in lot} | {1, 2}), (number, {1, 2}))
                    self.assertIs(is_lot(village, letters, lot), True)
                    self.assertEqual(lot_ledger(village, lot), ledger)
                    self.assertEqual({row.__class__ for row in lot}, {list})

    def test_when_there_are_some_and_the_least(self):
        for village, letters in small_cases(4):
            for ledger in all_ledgers(village, 2):
                gone = {house: sum(ledger[path] for path in ledger if house in path) for house in letters}
                right = lot_fault(village, letters, ledger) is None
                right = right and all(letters[house] for house in letters if gone[house] % 2)
                told = pair_numbers(village, letters, ledger)
                self.assertEqual(told is not None, right)
                if right:
                    odd = sum((letters[house] + gone[house]) % 2 for house in letters)
                    self.assertEqual(2 * told[0], sum(letters.values()) + odd)

    def test_examples_and_edges(self):
        self.assertIsNone(pair_numbers(star(), NO_B, ONES))
        self.assertEqual(pair_numbers(star(), NO_B, {**ONES, ("a", "b"): 0}), (2, 3))
        self.assertEqual(pair_numbers(lone(), {"x": 5}, {}), (3, 5))
        self.assertEqual(sorted(pair_lot(lone(), {"x": 5}, {}, 4)), [["x"], ["x"], ["x"], ["x", "x"]])
        self.assertIsNone(pair_lot(lone(), {"x": 5}, {}, 2))
        self.assertIsNone(pair_lot(star(), NO_B, LEDGER, 999999999))


class Office(unittest.TestCase):
    def test_all_bags_of_small_villages(self):
        for village, letters in small_cases(4):
            for house in village.houses():
                there = bags_there(village, letters, bags(village, letters, house, 9), 9)
                for ledger in ledgers_near(village, there):
                    self.check(village, letters, ledger, house, there.get(tuple(ledger.values()), set()))

    def check(self, village, letters, ledger, house, numbers):
        told = bag_numbers(village, letters, ledger, house)
        self.assertEqual(told, (min(numbers), max(numbers)) if numbers else None)
        for number in range(1, max(numbers, default=1) + 2):
            given = (village, letters, ledger, house)
            found, fault = bags_of(*given, number), bag_fault(*given, number)
            self.assertEqual(fault, self.naive_fault(*given, number))
            self.assertEqual((found is None, fault is None), (number not in numbers, number in numbers))
            if found is not None:
                self.assertEqual(len(found), number)
                self.assertIs(are_bags(*given, found), True)
                gone = [naive_ledger(village, [house] + row) for row in found]
                self.assertEqual(tuple(map(sum, zip(*gone))), tuple(ledger.values()))
                self.assertEqual(sorted(sum(found, [])), [place for place in letters for _ in range(letters[place])])
                self.assertEqual({row.__class__ for row in found}, {list})

    def naive_fault(self, village, letters, ledger, house, number):
        for path in village.paths():
            far = [beyond(village, *pair) for pair in (path, path[::-1])]
            away = next(houses for houses in far if house not in houses)
            if (ledger[path] > 0) != any(letters[place] for place in away):
                return "gone", path
        for place in village.houses():
            here = {path: ledger[path] for path in ledger if place in path}
            for path in here:
                if place != house and here[path] > sum(here.values()) - here[path] + letters[place]:
                    return "much", place, path
        here = {path: ledger[path] for path in ledger if house in path}
        for path in here:
            if here[path] > sum(here.values()) - here[path] + letters[house] + number:
                return "few", path
        most = sum(here.values()) + letters[house]
        return ("many", most) if number > most else None

    def test_examples_and_edges(self):
        self.assertEqual(bag_numbers(star(), NO_B, LEDGER, "b"), (1, 4))
        self.assertEqual(bag_numbers(star(), NO_B, ONES, "b"), (1, 3))
        self.assertEqual(bag_numbers(star(), NO_B, LEDGER, "a"), (1, 4))
        self.assertIs(are_bags(star(), NO_B, LEDGER, "a", [["a"], ["a", "c"], ["d"]]), True)
        self.assertIs(are_bags(star(), NO_B, ONES, "b", (("c",), ("a", "a"), ("d",))), True)
        self.assertEqual(bag_fault(star(), NO_B, {**LEDGER, ("b", "d"): 0}, "b", 1), ("gone", ("b", "d")))
        self.assertEqual(bag_fault(star(), NO_B, {**LEDGER, ("a", "b"): 3}, "b", 1), ("much", "a", ("a", "b")))
        self.assertEqual(bag_fault(star(), {**NO_B, "a": 3}, {**LEDGER, ("a", "b"): 3}, "b", 99), ("many", 5))
        self.assertEqual(bag_fault(star(), {**NO_B, "a": 5}, {**LEDGER, ("a", "b"): 5}, "b", 2), ("few", ("a", "b")))
        self.assertIsNone(bag_fault(star(), {**NO_B, "a": 5}, {**LEDGER, ("a", "b"): 5}, "b", 3))
        self.assertEqual(bag_numbers(lone(), {"x": 3}, {}, "x"), (1, 3))
        self.assertEqual(bags_of(lone(), {"x": 3}, {}, "x", 3), [["x"]] * 3)
        self.assertEqual(bag_fault(lone(), {"x": 3}, {}, "x", 4), ("many", 3))
        self.assertEqual(bag_numbers(two(), {"a": 0, "x": 2}, {("a", "x"): 1}, "a"), (1, 1))
        named = Village(["x0", "x1", "x2"], [("x0", "x1"), ("x1", "x2")])
        self.assertEqual(bags_of(named, {"x0": 1, "x1": 0, "x2": 0}, {("x0", "x1"): 1, ("x1", "x2"): 0}, "x2", 1), None)
        self.assertEqual(bags_of(named, {"x0": 1, "x1": 0, "x2": 0}, {("x0", "x1"): 1, ("x1", "x2"): 1}, "x2", 1), [["x0"]])

    def test_are_bags_of_any_objects(self):
        for thing in any_objects() + [[[]], [["a", "c"], []], [["a", "a"], ["c"]], [["a", "a", "c", "d"]], [["a"], "c"],
                                      {0: ["a"]}, [["a", "c", "a", "d"], ["b"]], [["a", "c"], ["a", "zz"]], []]:
            self.assertIs(are_bags(star(), NO_B, LEDGER, "b", thing), False)
        self.assertIs(are_bags(star(), NO_B, LEDGER, "b", [["a", "c", "a", "d"]]), True)
        self.assertIs(are_bags(star(), NO_B, LEDGER, "c", [["a", "c", "a", "d"]]), False)


class Wrong(unittest.TestCase):
    def test_errors_in_order(self):
        for function, rest in ((pair_numbers, 0), (pair_lot, 1), (are_bags, 2), (bags_of, 2), (bag_numbers, 1), (bag_fault, 2)):
            for thing in any_objects() + bad_tables(LETTERS) + [{house: 0 for house in HOUSES}]:
                self.assertIs(raised(BadLetters, function, star(), thing, None, *[None] * rest).thing, thing)
            for thing in any_objects() + bad_tables(LEDGER):
                self.assertIs(raised(BadLedger, function, star(), LETTERS, thing, *[None] * rest).thing, thing)
        for function, rest in ((are_bags, [None]), (bags_of, [None]), (bag_numbers, []), (bag_fault, [None])):
            for thing in any_objects():
                self.assertIs(raised(NoHouse, function, star(), LETTERS, LEDGER, thing, *rest).thing, thing)
        for thing in any_objects() + [0]:
            for ledger in (LEDGER, NONE):
                self.assertIs(raised(BadNumber, pair_lot, star(), LETTERS, ledger, thing).thing, thing)
                self.assertIs(raised(BadNumber, bags_of, star(), LETTERS, ledger, "a", thing).thing, thing)
                self.assertIs(raised(BadNumber, bag_fault, star(), LETTERS, ledger, "a", thing).thing, thing)


if __name__ == "__main__":
    unittest.main()
