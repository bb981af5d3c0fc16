"""[78] to [80]: lots of rounds, how many rounds they have, rounds made one and cut."""

import unittest
from functools import lru_cache
from itertools import product

from letterround.errors import BadIndex, BadLedger, BadLetters, BadLot, BadNumber
from letterround.letters import letters_of
from letterround.lotchanges import lot_cut, lot_joined
from letterround.pathcounts import run_numbers
from letterround.rounds import ledger_of
from letterround.roundlots import is_lot, lot_fault, lot_ledger, lot_numbers, lot_of
from letterround.villages import Village
from tests.helpers import (HOUSES, LEDGER, LETTERS, ROUND, all_ledgers, any_objects, bad_tables, lone, naive_ledger,
                           naive_walk, raised, rounds_by_ledger, small_cases, star, tree, two)

NO_B = {"a": 2, "b": 0, "c": 1, "d": 1}
ONES = {path: 1 for path in LEDGER}


@lru_cache(maxsize=None)
def all_lots(village_key, numbers):
    """The dict from the numbers of ledgers to the sets of how many rounds lots with these letters have."""
    village = Village(list(village_key[0]), list(village_key[1]))
    houses = village.houses()
    bags = {}
    for part in product(*[range(number + 1) for number in numbers]):
        if any(part):
            bags[part] = set(rounds_by_ledger(village, dict(zip(houses, part))))

    @lru_cache(maxsize=None)
    def found(left, least):
        if not any(left):
            return {(0, (0,) * len(village.paths()))}
        told = set()
        for bag in bags:
            if bag >= least and all(x <= y for x, y in zip(bag, left)):
                for many, gone in found(tuple(y - x for x, y in zip(bag, left)), bag):
                    told |= {(many + 1, tuple(x + y for x, y in zip(gone, more))) for more in bags[bag]}
        return told

    by_ledger = {}
    for many, gone in found(numbers, (0,) * len(numbers)):
        by_ledger.setdefault(gone, set()).add(many)
    return by_ledger


def lots_there(village, letters):
    key = (tuple(village.houses()), tuple(village.paths()))
    return all_lots(key, tuple(letters[house] for house in village.houses()))


def cases(most):
    """Triples of a small village, letters and a ledger, with the set of how many rounds there can be."""
    for village, letters in small_cases(most):
        there = lots_there(village, letters)
        top = max(max(gone, default=0) for gone in there) + 1
        for ledger in all_ledgers(village, min(top, 2 if len(village) > 3 else top)):
            yield village, letters, ledger, there.get(tuple(ledger.values()), set())
        for gone in there:
            if max(gone, default=0) > 2:
                yield village, letters, dict(zip(village.paths(), gone)), there[gone]


def summed(village, lot):
    gone = [naive_ledger(village, row) for row in lot]
    return dict(zip(village.paths(), map(sum, zip(*gone))))


class Lots(unittest.TestCase):
    def test_all_lots_of_small_villages(self):
        for village, letters, ledger, there in cases(4):
            numbers = lot_numbers(village, letters, ledger)
            self.assertEqual(lot_fault(village, letters, ledger) is None, bool(there))
            if not there:
                self.assertIsNone(numbers)
                self.assertIsNone(lot_of(village, letters, ledger, 1))
                continue
            self.assertEqual(set(range(numbers[0], numbers[1] + 1)), there)
            self.assertEqual(numbers[1], sum(letters.values()) - run_numbers(village, ledger)[0])
            for number in range(1, numbers[1] + 2):
                lot = lot_of(village, letters, ledger, number)
                if number not in there:
                    self.assertIsNone(lot)
                    continue
                self.assertEqual(len(lot), number)
                self.assertIs(is_lot(village, letters, lot), True)
                self.assertEqual({row.__class__ for row in lot}, {list})
                self.assertEqual(summed(village, lot), ledger)
                self.assertEqual(lot_ledger(village, lot), ledger)

    def test_lot_fault_is_the_first_pair(self):
        for village, letters, ledger, there in cases(3):
            faults = []
            for house in village.houses():
                here = {path: ledger[path] for path in ledger if house in path}
                faults += [(house, path) for path in here if 2 * here[path] > sum(here.values()) + letters[house]]
            self.assertEqual(lot_fault(village, letters, ledger), min(faults) if faults else None)

    def test_examples_and_edges(self):
        self.assertEqual(lot_numbers(star(), NO_B, LEDGER), (1, 2))
        self.assertEqual(sorted(map(sorted, lot_of(star(), NO_B, LEDGER, 2))), [["a", "c"], ["a", "d"]])
        self.assertEqual(lot_numbers(star(), NO_B, ONES), (1, 2))
        self.assertEqual(sorted(map(sorted, lot_of(star(), NO_B, ONES, 2))), [["a"], ["a", "c", "d"]])
        self.assertEqual(lot_numbers(star(), NO_B, {**ONES, ("a", "b"): 0}), (2, 3))
        self.assertEqual(lot_numbers(star(), LETTERS, {path: 0 for path in LEDGER}), (4, 5))
        self.assertEqual(lot_fault(star(), NO_B, {**LEDGER, ("a", "b"): 3}), ("a", ("a", "b")))
        self.assertEqual(lot_fault(star(), {**NO_B, "a": 3}, {**LEDGER, ("a", "b"): 3}), ("b", ("a", "b")))
        self.assertEqual(lot_of(star(), {"a": 0, "b": 1, "c": 0, "d": 0}, {path: 0 for path in LEDGER}, 1), [["b"]])
        self.assertEqual((lot_numbers(lone(), {"x": 3}, {}), lot_of(lone(), {"x": 3}, {}, 3)), ((1, 3), [["x"]] * 3))
        self.assertEqual(lot_of(lone(), {"x": 2}, {}, 1), [["x", "x"]])
        self.assertIsNone(lot_of(star(), NO_B, LEDGER, 999999999))

    def test_houses_where_three_paths_meet_without_letters(self):
        village = Village(list("abcdefgh"), [("b", "a"), ("b", "c"), ("b", "d"), ("d", "e"), ("d", "f"), ("f", "g"), ("f", "h")])
        letters = {"a": 1, "b": 0, "c": 1, "d": 0, "e": 1, "f": 0, "g": 1, "h": 1}
        ledger = {path: 1 for path in village.paths()}
        self.assertEqual(lot_numbers(village, letters, ledger), (1, 1))
        self.assertEqual(summed(village, lot_of(village, letters, ledger, 1)), ledger)
        letters = {**letters, "a": 3, "e": 3, "h": 2}
        ledger = {**ledger, ("a", "b"): 3, ("d", "e"): 3, ("b", "d"): 3, ("f", "h"): 2, ("d", "f"): 1}
        least, most = lot_numbers(village, letters, ledger)
        for number in range(least, most + 1):
            lot = lot_of(village, letters, ledger, number)
            self.assertEqual((len(lot), summed(village, lot), is_lot(village, letters, lot)), (number, ledger, True))
        five = Village(list("abcdef"), [("a", other) for other in "bcdef"])
        letters = {"a": 0, "b": 1, "c": 1, "d": 1, "e": 1, "f": 1}
        ledger = {path: 1 for path in five.paths()}
        self.assertEqual(lot_numbers(five, letters, ledger), (1, 2))
        self.assertEqual(sorted(map(len, lot_of(five, letters, ledger, 2))), [2, 3])

    def test_is_lot(self):
        self.assertIs(is_lot(star(), LETTERS, [ROUND]), True)
        self.assertIs(is_lot(star(), LETTERS, (("a",), ["d", "a"], ["c", "b"])), True)
        for thing in any_objects() + [ROUND, [[]], [ROUND, []], [ROUND, ["a"]], [ROUND[1:]], {0: ROUND}, [["a", None]],
                                      [["a", "zz"]], [ROUND[:2], ROUND[2:], None], []]:
            self.assertIs(is_lot(star(), LETTERS, thing), False)

    def test_wrong(self):
        for function, rest in ((lot_fault, 0), (lot_numbers, 0), (lot_of, 1)):
            for thing in any_objects() + bad_tables(LETTERS) + [{house: 0 for house in HOUSES}]:
                self.assertIs(raised(BadLetters, function, star(), thing, *[None] * (rest + 1)).thing, thing)
            for thing in any_objects() + bad_tables(LEDGER):
                self.assertIs(raised(BadLedger, function, star(), LETTERS, thing, *[None] * rest).thing, thing)
        for thing in any_objects() + bad_tables(LETTERS):
            self.assertIs(raised(BadLetters, is_lot, star(), thing, None).thing, thing)
        for thing in any_objects() + [0]:
            self.assertIs(raised(BadNumber, lot_of, star(), LETTERS, LEDGER, thing).thing, thing)
            self.assertIs(raised(BadNumber, lot_of, star(), LETTERS, {**LEDGER, ("a", "b"): 9}, thing).thing, thing)
        for function, rest in ((lot_ledger, []), (lot_joined, [None, None]), (lot_cut, [None])):
            for thing in [None, True, 0, "a", "", {}, {"a": 1}, [], (), star(), any_objects]:
                self.assertEqual(raised(BadLot, function, star(), thing, *rest).index, 0)
            for thing in any_objects() + [[], ["a", "zz"], ["a", None], "a", {0: "a"}]:
                self.assertEqual(raised(BadLot, function, star(), [ROUND, thing, thing], *rest).index, 1)


class Changes(unittest.TestCase):
    def test_joined_and_cut_in_small_villages(self):
        for village, letters, ledger, there in list(cases(4))[::3]:
            for number in there:
                lot = lot_of(village, letters, ledger, number)
                for first in range(number):
                    self.check_cut(village, lot, first)
                    for second in range(number):
                        if first != second:
                            self.check_joined(village, lot, first, second)

    def check_joined(self, village, lot, first, second):
        told = lot_joined(village, lot, first, second)
        one, other = [naive_walk(village, lot[index] + lot[index][:1]) for index in (first, second)]
        if not set(one) & set(other):
            self.assertIsNone(told)
            return
        place = min(first, second)
        self.assertEqual(sorted(told[place]), sorted(lot[first] + lot[second]))
        self.assertEqual(told[:place] + told[place + 1:],
                         [row for index, row in enumerate(lot) if index not in (first, second)])
        self.assertEqual(summed(village, told), summed(village, lot))

    def check_cut(self, village, lot, index):
        told = lot_cut(village, lot, index)
        most = lot_numbers(village, letters_of(village, lot[index]), ledger_of(village, lot[index]))[1]
        self.assertEqual(len(told), len(lot) - 1 + most)
        self.assertEqual(summed(village, told), summed(village, lot))
        self.assertEqual(told[:index] + told[index + most:], lot[:index] + lot[index + 1:])
        self.assertEqual(letters_of(village, sum(told[index:index + most], [])), letters_of(village, lot[index]))
        if most == 1:
            self.assertEqual(told, lot)

    def test_all_pairs_of_little_rounds_can_be_made_one(self):
        for make in (star, tree, two):
            village = make()
            rows = [list(row) for size in (1, 2, 3) for row in product(village.houses(), repeat=size)]
            for one in rows[::4]:
                for other in rows[::5]:
                    lot = [one, other]
                    told = lot_joined(village, lot, 1, 0)
                    walks = [set(naive_walk(village, row + row[:1])) for row in lot]
                    self.assertEqual(told is not None, bool(walks[0] & walks[1]))
                    if told is not None:
                        self.assertEqual(len(told), 1)
                        self.assertEqual(summed(village, told), summed(village, lot))
                        self.assertEqual(sorted(told[0]), sorted(one + other))

    def test_edges_and_wrong(self):
        lot = [["a", "c"], ["b"], ["d", "a"]]
        self.assertEqual(lot_cut(star(), (("a", "c"), ("b",), ["d", "a"]), 0), lot)
        self.assertEqual([sorted(row) for row in lot_joined(star(), lot, 2, 0)], [["a", "a", "c", "d"], ["b"]])
        self.assertIsNone(lot_joined(star(), [["a"], ["c", "d"]], 0, 1))
        self.assertEqual(lot_cut(star(), [["a", "a"], ["b"]], 0), [["a"], ["a"], ["b"]])
        for thing in any_objects() + [3, 10 ** 20]:
            self.assertIs(raised(BadIndex, lot_joined, star(), lot, thing, None).thing, thing)
            self.assertIs(raised(BadIndex, lot_joined, star(), lot, 1, thing).thing, thing)
            self.assertIs(raised(BadIndex, lot_cut, star(), lot, thing).thing, thing)
        self.assertEqual(raised(BadIndex, lot_joined, star(), lot, 2, 2).thing, 2)
        self.assertEqual(raised(BadIndex, lot_joined, star(), [["a"]], 0, 0).thing, 0)


if __name__ == "__main__":
    unittest.main()
