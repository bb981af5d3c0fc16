"""[51] to [53], [57], [58]: caps, what is let through, lots that hold, holders."""

import unittest
from itertools import combinations

from letterround.caps import greatest_beneath, holders, lets_through
from letterround.errors import BadCaps, BadLetters, BadNumber, NoHouse, NoPath, NotPossible
from letterround.greatest import greatest_ledger
from letterround.lots import caps_paper, holding_lot, is_holding
from letterround.therule import can_be, parting_paths
from letterround.villages import beside
from letterround.ways import beyond
from tests.helpers import (LEDGER, LETTERS, all_ledgers, any_objects, bad_tables, ledgers_there, lone, naive_ways,
                           raised, small_cases, star, tree, two)

NO_B = {"a": 2, "b": 0, "c": 1, "d": 1}
TWOS = {path: 2 for path in LEDGER}


def some_caps(village):
    """Caps of several kinds, some of them 0."""
    for kind in range(5):
        yield {path: (3 * place + kind) % (2 + kind) for place, path in enumerate(village.paths())}


def beneath(village, letters, caps):
    return [ledger for ledger in ledgers_there(village, letters) if all(ledger[path] <= caps[path] for path in caps)]


def all_lots(village, house, other):
    """All lots for the path from house to other, gone through one by one."""
    further = beyond(village, house, other)
    yield []
    for many in range(1, len(further) + 1):
        for lot in combinations(further, many):
            ways = [naive_ways(village)[(other, place)] for place in lot]
            if other in lot and all(set(way) <= set(lot) for way in ways):
                yield list(lot)


def sum_of(village, letters, caps, house, other, lot):
    """The sum of a lot, as [53] says it."""
    path = tuple(sorted([house, other]))
    if not lot:
        return caps[path]
    out = [pair for pair in village.paths() if len(set(pair) & set(lot)) == 1 and pair != path]
    return sum(letters[place] for place in lot) + sum(caps[pair] for pair in out)


def pairs_of(village):
    return [(house, other) for house in village.houses() for other in beside(village, house)]


class Greatest(unittest.TestCase):
    def test_greatest_beneath_of_all_small_villages(self):
        for village, letters in small_cases(5):
            for caps in some_caps(village):
                there = beneath(village, letters, caps)
                told = greatest_beneath(village, letters, caps)
                if not there:
                    self.assertIsNone(told)
                else:
                    self.assertIn(told, there)
                    self.assertEqual(list(told), village.paths())
                    for path in told:
                        self.assertEqual(told[path], max(ledger[path] for ledger in there))

    def test_the_greater_of_two_right_ledgers_is_right(self):
        for village, letters in small_cases(5):
            there = ledgers_there(village, letters)
            for one in there:
                for other in there:
                    self.assertTrue(can_be(village, letters, {path: max(one[path], other[path]) for path in one}))

    def test_it_is_the_lesser_of_what_both_sides_let(self):
        for village, letters in small_cases(4):
            parting = parting_paths(village, letters)
            for caps in some_caps(village):
                let = {pair: lets_through(village, letters, caps, *pair) for pair in pairs_of(village)}
                least = {path: min(let[path], let[path[::-1]]) for path in village.paths()}
                told = greatest_beneath(village, letters, caps)
                self.assertEqual(told, least if all(least[path] > 0 for path in parting) else None)
                for house, other in let:
                    further = sum(let[(other, third)] for third in beside(village, other) if third != house)
                    cap = caps[tuple(sorted([house, other]))]
                    self.assertEqual(let[(house, other)], min(cap, letters[other] + further))

    def test_without_caps(self):
        for village, letters in small_cases(5):
            many = {path: sum(letters.values()) for path in village.paths()}
            greatest = greatest_beneath(village, letters, many)
            self.assertEqual(greatest, greatest_ledger(village, letters))
            for path in village.paths():
                if path not in parting_paths(village, letters):
                    self.assertEqual(greatest[path], 0)

    def test_examples(self):
        for house, other, told in [("b", "a", 2), ("a", "b", 2), ("b", "c", 1)]:
            self.assertEqual(lets_through(star(), LETTERS, TWOS, house, other), told)
        self.assertEqual(greatest_beneath(star(), LETTERS, TWOS), LEDGER)
        self.assertIsNone(greatest_beneath(star(), LETTERS, {**TWOS, ("b", "c"): 0}))
        self.assertEqual(lets_through(star(), NO_B, {**TWOS, ("b", "c"): 1, ("b", "d"): 1}, "a", "b"), 2)

    def test_edges(self):
        self.assertEqual(greatest_beneath(lone(), {"x": 3}, {}), {})
        none = {path: 0 for path in LEDGER}
        self.assertIsNone(greatest_beneath(star(), LETTERS, none))
        self.assertEqual(greatest_beneath(star(), {"a": 0, "b": 0, "c": 3, "d": 0}, none), none)
        self.assertEqual(greatest_beneath(star(), {"a": 0, "b": 0, "c": 3, "d": 0}, TWOS), none)
        self.assertEqual(greatest_beneath(two(), {"a": 9, "x": 9}, {("a", "x"): 7}), {("a", "x"): 7})


class Lots(unittest.TestCase):
    def test_just_one_let_through_or_a_lot(self):
        for village, letters in small_cases(3):
            for caps in list(some_caps(village))[1:]:
                for house, other in pairs_of(village):
                    sums = {tuple(lot): sum_of(village, letters, caps, house, other, lot)
                            for lot in all_lots(village, house, other)}
                    let = lets_through(village, letters, caps, house, other)
                    self.assertEqual(let, min(sums.values()))
                    for number in range(max(sums.values()) + 2):
                        lot = holding_lot(village, letters, caps, house, other, number)
                        self.assertEqual(lot is None, let >= number)
                        if lot is not None:
                            self.assertLess(sums[tuple(lot)], number)
                            self.assertEqual((lot, lot.__class__), (sorted(lot), list))
                        for known in sums:
                            told = is_holding(village, letters, caps, house, other, number, list(known[::-1]))
                            self.assertIs(told, sums[known] < number)

    def test_caps_paper_is_just_where_there_is_no_greatest(self):
        for village, letters in small_cases(4):
            parting = parting_paths(village, letters)
            for caps in some_caps(village):
                paper = caps_paper(village, letters, caps)
                self.assertEqual(paper is None, greatest_beneath(village, letters, caps) is not None)
                held = []
                for house, other in pairs_of(village):
                    sums = [sum_of(village, letters, caps, house, other, lot)
                            for lot in all_lots(village, house, other)]
                    if tuple(sorted([house, other])) in parting and 0 in sums:
                        held.append((house, other))
                self.assertEqual(paper[:2] if paper else None, held[0] if held else None)
                if paper:
                    self.assertEqual((paper.__class__, paper[2].__class__), (tuple, list))
                    self.assertIs(is_holding(village, letters, caps, *paper[:2], 1, paper[2]), True)

    def test_examples(self):
        caps = {("a", "b"): 2, ("b", "c"): 1, ("b", "d"): 1}
        self.assertEqual(caps_paper(star(), LETTERS, {**TWOS, ("b", "c"): 0}), ("b", "c", []))
        self.assertIn(holding_lot(star(), NO_B, caps, "a", "b", 3), (["b"], ["b", "c", "d"], []))
        for lot in (["b"], ["d", "b", "c"], ("b", "c"), []):
            self.assertIs(is_holding(star(), NO_B, caps, "a", "b", 3, lot), True)
            self.assertIs(is_holding(star(), NO_B, caps, "a", "b", 2, lot), False)
        self.assertIsNone(holding_lot(star(), NO_B, caps, "a", "b", 2))
        self.assertIsNone(holding_lot(star(), NO_B, caps, "a", "b", 0))
        self.assertEqual(caps_paper(lone(), {"x": 1}, {}), None)
        self.assertEqual(caps_paper(two(), {"x": 1, "a": 0}, {("a", "x"): 0}), None)

    def test_is_holding_of_any_object(self):
        for thing in any_objects() + [["a"], ["c"], ["c", "d"], ["b", "a"], ["b", "b"], ["b", "zz"], ["b", None],
                                      {"b": 1}, "b", ["b", ["c"]]]:
            self.assertIs(is_holding(star(), LETTERS, TWOS, "a", "b", 99, thing), False)
        self.assertIs(is_holding(tree(), {house: 1 for house in "abcde"}, {path: 9 for path in tree().paths()},
                                 "a", "c", 99, ["c", "e"]), False)
        self.assertIs(is_holding(tree(), {house: 1 for house in "abcde"}, {path: 9 for path in tree().paths()},
                                 "a", "c", 99, ["e", "c", "d"]), True)


class Holders(unittest.TestCase):
    def test_all_small_villages(self):
        for village, letters in small_cases(3):
            for caps in some_caps(village):
                there = beneath(village, letters, caps)
                if not there:
                    for path in village.paths():
                        raised(NotPossible, holders, village, letters, caps, *path)
                    continue
                for path in village.paths():
                    self.check_holders(village, letters, caps, path, max(ledger[path] for ledger in there))

    def check_holders(self, village, letters, caps, path, most):
        paths, houses = [], []
        for other in village.paths():
            more = [ledger[path] for ledger in beneath(village, letters, {**caps, other: caps[other] + 1})]
            self.assertLess(max(more), most + 2)
            if max(more) == most + 1:
                paths.append(other)
        for house in village.houses():
            more = [ledger[path] for ledger in beneath(village, {**letters, house: letters[house] + 1}, caps)]
            self.assertLess(max(more, default=0), most + 2)
            if max(more, default=0) == most + 1:
                houses.append(house)
        self.assertEqual(holders(village, letters, caps, *path), (paths, houses))
        self.assertEqual(holders(village, letters, caps, *path[::-1]), (paths, houses))

    def test_examples(self):
        caps = {("a", "b"): 2, ("b", "c"): 1, ("b", "d"): 1}
        self.assertEqual(holders(star(), NO_B, caps, "a", "b"), ([], []))
        self.assertEqual(holders(star(), NO_B, {**caps, ("a", "b"): 1}, "a", "b"), ([("a", "b")], []))
        self.assertEqual(holders(star(), {**NO_B, "a": 3}, {path: 9 for path in LEDGER}, "b", "a"),
                         ([], ["b", "c", "d"]))


class Wrong(unittest.TestCase):
    def test_letters_and_caps(self):
        for function, rest in ((greatest_beneath, 0), (caps_paper, 0), (lets_through, 2), (holders, 2),
                               (holding_lot, 3), (is_holding, 4)):
            for thing in any_objects() + bad_tables(LETTERS):
                self.assertIs(raised(BadLetters, function, star(), thing, *[None] * (rest + 1)).thing, thing)
            for thing in any_objects() + bad_tables(LEDGER):
                self.assertIs(raised(BadCaps, function, star(), LETTERS, thing, *[None] * rest).thing, thing)

    def test_houses_paths_and_numbers(self):
        for function, rest in ((lets_through, []), (holders, []), (holding_lot, [None]), (is_holding, [None, []])):
            for thing in any_objects():
                self.assertIs(raised(NoHouse, function, star(), LETTERS, TWOS, thing, None, *rest).thing, thing)
                self.assertIs(raised(NoHouse, function, star(), LETTERS, TWOS, "a", thing, *rest).thing, thing)
            for house, other in [("a", "c"), ("d", "c"), ("a", "a"), ("b", "b")]:
                error = raised(NoPath, function, star(), LETTERS, TWOS, house, other, *rest)
                self.assertEqual((error.one, error.other), (house, other))
        for thing in any_objects():
            self.assertIs(raised(BadNumber, holding_lot, star(), LETTERS, TWOS, "a", "b", thing).thing, thing)
            self.assertIs(raised(BadNumber, is_holding, star(), LETTERS, TWOS, "a", "b", thing, []).thing, thing)

    def test_not_possible_is_ahead_of_houses(self):
        raised(NotPossible, holders, star(), LETTERS, {path: 0 for path in LEDGER}, None, None)
        for caps in all_ledgers(star(), 1):
            if 0 in caps.values():
                raised(NotPossible, holders, star(), LETTERS, caps, "zz", "a")


if __name__ == "__main__":
    unittest.main()
