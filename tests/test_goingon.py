"""[22], [23]: going on, pickers."""

import unittest

from letterround.errors import BadBegun, BadLedger, BadLetters, BadPicker, PostError
from letterround.goingon import lost_at, next_houses, run_picker
from letterround.numbering import count_begun
from letterround.rounds import signs_at
from letterround.villages import beside
from tests.helpers import (HOUSES, LEDGER, LETTERS, ROUND, all_ledgers, any_objects, bad_tables, lone, naive_ways,
                           raised, rounds_by_ledger, rows_of, small_cases, star)

NO_ROUND = {("a", "b"): 3, ("b", "c"): 1, ("b", "d"): 1}


def beginnings(letters):
    """All that is begun of these letters."""
    told = [()]
    for row in rows_of(letters):
        told += [tuple(row[:size]) for size in range(1, len(row) + 1)]
    return sorted(set(told))


def by_the_fact(village, letters, ledger, begun):
    """What FACT tells of something begun, in its own words."""
    ways = naive_ways(village)
    for house in village.houses():
        letter_signs = [(ways[(house, place)] + [house])[1] if place != house else house for place in begun]
        kept = []
        for sign in letter_signs:
            if not kept or sign == house or sign != kept[-1]:
                kept.append(sign)
        left = {other: ledger[tuple(sorted([house, other]))] - kept.count(other) for other in beside(village, house)}
        own = letters[house] - kept.count(house)
        first, last = kept[0], kept[-1]
        total = sum(left.values()) + own
        once_too_often = [other for other in left if left[other] == -1 and first == last == other
                          and own == 0 and not any(left[far] for far in left if far != other)]
        if once_too_often:
            continue
        for other in left:
            if left[other] < 0 or left[other] + (first == other) + (last == other) > 1 + total - left[other]:
                return False
    return True


class GoingOn(unittest.TestCase):
    def test_the_documents_example(self):
        self.assertEqual(next_houses(star(), LETTERS, LEDGER, ["c", "a"]), ["b", "d"])
        self.assertEqual(next_houses(star(), LETTERS, LEDGER, ("c", "a")), ["b", "d"])
        self.assertIsNone(lost_at(star(), LETTERS, LEDGER, ["c", "a"]))
        self.assertEqual(lost_at(star(), LETTERS, LEDGER, ["c", "a", "a", "b"]), 3)

    def test_edges(self):
        self.assertEqual(next_houses(star(), LETTERS, LEDGER, []), HOUSES)
        self.assertEqual(next_houses(star(), LETTERS, LEDGER, ROUND), [])
        self.assertIsNone(lost_at(star(), LETTERS, LEDGER, ROUND))
        self.assertEqual(next_houses(star(), LETTERS, NO_ROUND, []), [])
        self.assertEqual(lost_at(star(), LETTERS, NO_ROUND, []), 0)
        self.assertEqual(lost_at(star(), LETTERS, NO_ROUND, ["a"]), 0)
        self.assertEqual(next_houses(lone(), {"x": 2}, {}, ["x"]), ["x"])
        self.assertEqual(next_houses(lone(), {"x": 2}, {}, ["x", "x"]), [])
        self.assertIsNone(lost_at(lone(), {"x": 2}, {}, []))
        none = {path: 0 for path in LEDGER}
        self.assertEqual(next_houses(star(), {"a": 0, "b": 0, "c": 2, "d": 0}, none, ["c"]), ["c"])

    def test_all_beginnings_in_small_villages(self):
        for village, letters in small_cases(3):
            there = rounds_by_ledger(village, letters)
            all_begun = beginnings(letters)
            for ledger in all_ledgers(village, 2):
                rows = there.get(tuple(ledger.values()), [])
                starts = {tuple(row[:size]) for row in rows for size in range(len(row) + 1)}
                for begun in all_begun:
                    told = [house for house in village.houses() if begun + (house,) in starts]
                    self.assertEqual(next_houses(village, letters, ledger, begun), told)
                    lost = [size for size in range(len(begun) + 1) if begun[:size] not in starts]
                    self.assertEqual(lost_at(village, letters, ledger, list(begun)), lost[0] if lost else None)
                    if begun:
                        self.assertEqual(by_the_fact(village, letters, ledger, begun), begun in starts)

    def test_more_letters_by_the_ledgers_that_are_there(self):
        for village, letters in small_cases(5):
            if sum(letters.values()) < 5 or len(village) > 4:
                continue
            for numbers, rows in list(rounds_by_ledger(village, letters).items())[::3]:
                ledger = dict(zip(village.paths(), numbers))
                starts = {tuple(row[:size]) for row in rows for size in range(len(row) + 1)}
                for begun in sorted(starts)[::5]:
                    told = [house for house in village.houses() if begun + (house,) in starts]
                    self.assertEqual(next_houses(village, letters, ledger, begun), told)

    def test_signs_begun_are_no_ring(self):
        self.assertEqual(signs_at(star(), ["c", "a", "c"], "b"), ("c", "a"))
        letters = {"a": 1, "b": 0, "c": 2, "d": 1}
        ledger = {("a", "b"): 1, ("b", "c"): 1, ("b", "d"): 1}
        self.assertEqual(next_houses(star(), letters, ledger, ["c", "a"]), ["d"])
        self.assertEqual(next_houses(star(), letters, ledger, ["c", "a", "d"]), ["c"])
        self.assertIsNone(lost_at(star(), letters, ledger, ["c", "a", "d", "c"]))

    def test_wrong(self):
        for function in (next_houses, lost_at, count_begun):
            for thing in any_objects() + bad_tables(LETTERS):
                self.assertIs(raised(BadLetters, function, star(), thing, None, None).thing, thing)
            for thing in any_objects() + bad_tables(LEDGER):
                self.assertIs(raised(BadLedger, function, star(), LETTERS, thing, None).thing, thing)
            for thing in [None, True, 0, "ab", "", {}, {"a": 1}, star(), any_objects]:
                self.assertEqual(raised(BadBegun, function, star(), LETTERS, LEDGER, thing).index, 0)
                self.assertEqual(raised(BadBegun, function, star(), LETTERS, NO_ROUND, thing).index, 0)
            for thing in any_objects() + ["c"]:
                self.assertEqual(raised(BadBegun, function, star(), LETTERS, LEDGER, ["c", "a", thing, 1]).index, 2)
            self.assertEqual(raised(BadBegun, function, star(), LETTERS, LEDGER, list("aabca")).index, 4)


class Pickers(unittest.TestCase):
    def test_done_by_each_round(self):
        for village, letters in small_cases(3):
            for numbers, rows in rounds_by_ledger(village, letters).items():
                for row in rows:
                    told = run_picker(village, letters, dict(zip(village.paths(), numbers)),
                                      lambda begun, left, row=row: row[len(begun)])
                    self.assertEqual(told, (row, "done"))
                    self.assertEqual((told.__class__, told[0].__class__), (tuple, list))

    def test_lost_as_soon_as_it_cannot_go_on(self):
        for village, letters in small_cases(4):
            for ledger in all_ledgers(village, 1):
                for row in list(rows_of(letters))[::4]:
                    lost = lost_at(village, letters, ledger, row)
                    told = run_picker(village, letters, ledger, lambda begun, left, row=row: row[len(begun)])
                    if lost is None:
                        self.assertEqual(told, (row, "done"))
                    else:
                        self.assertEqual(told, (row[:max(lost, 1)], "lost"))

    def test_what_a_picker_is_asked(self):
        asked = []

        def picker(begun, left):
            asked.append((begun, dict(left), list(left)))
            house = ROUND[len(begun)]
            left.clear()
            return house

        self.assertEqual(run_picker(star(), LETTERS, LEDGER, picker), (ROUND, "done"))
        self.assertEqual([begun for begun, _, _ in asked], [tuple(ROUND[:size]) for size in range(5)])
        for begun, left, keys in asked:
            self.assertEqual(left, {house: LETTERS[house] - begun.count(house) for house in HOUSES})
            self.assertEqual(keys, HOUSES)
            self.assertEqual(begun.__class__, tuple)

    def test_odd_ones_are_left_out(self):
        for thing in any_objects():
            told = run_picker(star(), LETTERS, LEDGER, lambda begun, left, thing=thing: (["c", "a"] + [thing])[len(begun)])
            self.assertEqual(told, (["c", "a"], "odd"))
            self.assertEqual(run_picker(star(), LETTERS, NO_ROUND, lambda begun, left, thing=thing: thing), ([], "odd"))
        self.assertEqual(run_picker(star(), LETTERS, LEDGER, lambda begun, left: "c"), (["c"], "odd"))
        self.assertEqual(run_picker(star(), LETTERS, NO_ROUND, lambda begun, left: "c"), (["c"], "lost"))
        self.assertEqual(run_picker(lone(), {"x": 2}, {}, lambda begun, left: "x"), (["x", "x"], "done"))

    def test_an_error_goes_through(self):
        class Odd(Exception):
            pass

        def fails(begun, left):
            raise Odd(begun)

        for ledger in (LEDGER, NO_ROUND):
            with self.assertRaises(Odd):
                run_picker(star(), LETTERS, ledger, fails)

        def lost(begun, left):
            raise PostError()

        with self.assertRaises(PostError):
            run_picker(star(), LETTERS, LEDGER, lost)

    def test_wrong(self):
        for thing in any_objects():
            self.assertIs(raised(BadLetters, run_picker, star(), thing, None, None).thing, thing)
            self.assertIs(raised(BadLedger, run_picker, star(), LETTERS, thing, None).thing, thing)
            if "function" not in thing.__class__.__name__:
                for ledger in (LEDGER, NO_ROUND):
                    self.assertIs(raised(BadPicker, run_picker, star(), LETTERS, ledger, thing).thing, thing)


if __name__ == "__main__":
    unittest.main()
