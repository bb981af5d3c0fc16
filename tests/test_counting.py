"""[25] to [30]: words, factors, rounds counted and numbered, turns, given pieces."""

import unittest
from fractions import Fraction
from itertools import product
from math import comb, factorial, prod

from letterround.counting import count_holding, count_orders, count_rounds, factors, first_table
from letterround.errors import (BadLedger, BadLetters, BadNumber, BadNumbers, BadRound, BadRow, NoHouse, NoLetter,
                                NoRound)
from letterround.numbering import count_begun, next_round, round_at, round_number
from letterround.turns import count_rings, turns_of
from letterround.words import count_framed, count_words
from tests.helpers import (HOUSES, LEDGER, LETTERS, ROUND, all_ledgers, any_objects, bad_tables, lone, raised,
                           rounds_by_ledger, rows_of, small_cases, star, turned)

NO_ROUND = {("a", "b"): 3, ("b", "c"): 1, ("b", "d"): 1}


def words(signs, free):
    """All rows of just these signs, free ones being -1, of which no two of one kind stand side by side."""
    left = {kind: many for kind, many in enumerate(signs)}
    left[-1] = free
    return [row for row in rows_of(left) if all(one != other or one == -1 for one, other in zip(row, row[1:]))]


def small_words():
    for kinds in range(4):
        for signs in product(range(4), repeat=kinds):
            for free in range(4):
                if sum(signs) + free <= 6:
                    yield list(signs), free


class Words(unittest.TestCase):
    def test_examples_and_edges(self):
        self.assertEqual(count_words([2, 1, 1], 0), 6)
        self.assertEqual(count_framed([2, 2], 1), 4)
        self.assertEqual(count_words([], 0), 1)
        self.assertEqual(count_words([], 5), 1)
        self.assertEqual(count_words([0, 0], 2), 1)
        self.assertEqual(count_words([2], 0), 0)
        self.assertEqual(count_words((1,), 0), 1)
        self.assertEqual([count_framed(signs, 3) for signs in ([], [0], [0, 2])], [0, 0, 0])
        self.assertEqual([count_framed([1], free) for free in (0, 1, 2)], [0, 1, 1])

    def test_against_all_rows(self):
        for signs, free in small_words():
            rows = words(signs, free)
            self.assertEqual(count_words(signs, free), len(rows))
            framed = [row for row in rows if row and row[0] == 0 != row[-1]]
            self.assertEqual(count_framed(signs, free), len(framed))

    def test_it_holds_the_sum_over_blocks(self):
        for signs, free in small_words():
            total = 0
            for blocks in product(*[range(1, many + 1) if many else [0] for many in signs]):
                worth = 1
                for many, block in zip(signs, blocks):
                    if many:
                        worth *= comb(many - 1, block - 1) * (-1) ** (many - block)
                orders = factorial(sum(blocks) + free) // prod(map(factorial, blocks)) // factorial(free)
                total += worth * orders
            self.assertEqual(count_words(signs, free), total)

    def test_wrong(self):
        for function in (count_words, count_framed):
            for thing in [None, True, 3, "12", {}, {0: 1}, star(), any_objects]:
                self.assertEqual(raised(BadNumbers, function, thing, None).index, 0)
            for thing in any_objects():
                self.assertEqual(raised(BadNumbers, function, [0, 1, thing, None], None).index, 2)
                for signs in ([], [0], [1, 2]):
                    self.assertIs(raised(BadNumber, function, signs, thing).thing, thing)


class Counted(unittest.TestCase):
    def test_the_documents_example(self):
        table = first_table(star(), LETTERS, LEDGER)
        self.assertEqual(table, {"a": 12, "b": 6, "c": 6, "d": 6})
        self.assertEqual(list(table), HOUSES)
        self.assertEqual(count_rounds(star(), LETTERS, LEDGER), 30)
        self.assertEqual(count_orders(star(), LETTERS), 60)
        told = factors(star(), LETTERS, LEDGER, "b")
        self.assertEqual(told, {"a": 1, "b": 6, "c": 1, "d": 1})
        self.assertEqual(list(told), HOUSES)
        self.assertEqual(count_rings(star(), LETTERS, LEDGER), 6)
        self.assertEqual(round_at(star(), LETTERS, LEDGER, 0), ["a", "b", "a", "c", "d"])

    def test_edges(self):
        self.assertEqual(first_table(lone(), {"x": 3}, {}), {"x": 1})
        self.assertEqual(factors(lone(), {"x": 3}, {}, "x"), {"x": 1})
        self.assertEqual((count_orders(lone(), {"x": 3}), count_rings(lone(), {"x": 3}, {})), (1, 1))
        self.assertEqual(first_table(star(), LETTERS, NO_ROUND), {})
        self.assertEqual(count_rounds(star(), LETTERS, NO_ROUND), 0)
        self.assertEqual(count_rings(star(), LETTERS, NO_ROUND), 0)
        self.assertEqual(count_holding(star(), LETTERS, NO_ROUND, "a", "b"), 0)
        alone = {"a": 0, "b": 0, "c": 4, "d": 0}
        none = {path: 0 for path in LEDGER}
        self.assertEqual(first_table(star(), alone, none), {"c": 1})
        self.assertEqual(factors(star(), alone, none, "c"), {"a": 1, "b": 1, "c": 1, "d": 1})
        self.assertEqual(count_rings(star(), alone, none), 1)
        self.assertEqual(count_holding(star(), alone, none, "c", "c"), 4)
        single = {"a": 0, "b": 0, "c": 1, "d": 0}
        self.assertEqual(count_holding(star(), single, none, "c", "c"), 1)
        self.assertEqual(count_holding(star(), single, none, "c", "a"), 0)
        self.assertEqual(count_holding(star(), single, none, "a", "a"), 0)

    def test_counted_against_all_rounds(self):
        for village, letters in small_cases(4):
            there = rounds_by_ledger(village, letters)
            total = 0
            for ledger in all_ledgers(village, 2):
                rows = there.get(tuple(ledger.values()), [])
                firsts = [row[0] for row in rows]
                table = first_table(village, letters, ledger)
                self.assertEqual(table, {house: firsts.count(house) for house in village.houses() if house in firsts})
                self.assertEqual(count_rounds(village, letters, ledger), len(rows))
                total += len(rows)
                for first in table:
                    told = factors(village, letters, ledger, first)
                    self.assertEqual(prod(told.values()), table[first])
                    self.assertEqual(list(told), village.houses())
                rings = {tuple(min(turned(row))) for row in rows}
                self.assertEqual(count_rings(village, letters, ledger), len(rings))
            self.assertEqual(count_orders(village, letters), total)

    def test_rings_of_more_letters(self):
        for village, letters in small_cases(6):
            if sum(letters.values()) == 6 and len(village) in (2, 4):
                for numbers, rows in rounds_by_ledger(village, letters).items():
                    rings = {tuple(min(turned(row))) for row in rows}
                    told = count_rings(village, letters, dict(zip(village.paths(), numbers)))
                    self.assertEqual(told, len(rings))

    def test_holding_against_all_rounds(self):
        for village, letters in small_cases(4):
            added = {}
            for numbers, rows in rounds_by_ledger(village, letters).items():
                ledger = dict(zip(village.paths(), numbers))
                total = 0
                for one, other in product(village.houses(), repeat=2):
                    told = count_holding(village, letters, ledger, one, other)
                    pairs = [(row[place - 1], row[place]) for row in rows for place in range(len(row))]
                    self.assertEqual(told, pairs.count((one, other)))
                    self.assertEqual(told, count_holding(village, letters, ledger, other, one))
                    added[(one, other)] = added.get((one, other), 0) + told
                    total += told
                self.assertEqual(total, sum(letters.values()) * len(rows))
            self.check_added(village, letters, added)

    def check_added(self, village, letters, added):
        many = sum(letters.values())
        for (one, other), told in added.items():
            if many > 1:
                pairs = letters[one] * (letters[one] - 1 if one == other else letters[other])
                self.assertEqual(told, Fraction(count_orders(village, letters) * pairs, many - 1))

    def test_wrong(self):
        for function in (count_rounds, first_table, count_rings):
            for thing in any_objects() + bad_tables(LETTERS):
                self.assertIs(raised(BadLetters, function, star(), thing, None).thing, thing)
            for thing in any_objects() + bad_tables(LEDGER):
                self.assertIs(raised(BadLedger, function, star(), LETTERS, thing).thing, thing)
        for thing in any_objects():
            self.assertIs(raised(BadLetters, count_orders, star(), thing).thing, thing)
            self.assertIs(raised(BadLetters, factors, star(), thing, None, None).thing, thing)
            self.assertIs(raised(BadLedger, factors, star(), LETTERS, thing, None).thing, thing)
            self.assertEqual(raised(NoRound, factors, star(), LETTERS, NO_ROUND, thing).paper, ("much", "a", "b"))
            self.assertIs(raised(NoHouse, factors, star(), LETTERS, LEDGER, thing).thing, thing)
            self.assertIs(raised(BadLetters, count_holding, star(), thing, None, None, None).thing, thing)
            self.assertIs(raised(BadLedger, count_holding, star(), LETTERS, thing, None, None).thing, thing)
            for ledger in (LEDGER, NO_ROUND):
                self.assertIs(raised(NoHouse, count_holding, star(), LETTERS, ledger, thing, None).thing, thing)
                self.assertIs(raised(NoHouse, count_holding, star(), LETTERS, ledger, "a", thing).thing, thing)
        letters = {"a": 2, "b": 0, "c": 1, "d": 1}
        self.assertEqual(raised(NoLetter, factors, star(), letters, LEDGER, "b").house, "b")


class InOrder(unittest.TestCase):
    def test_numbers_of_all_rounds_of_small_villages(self):
        for village, letters in small_cases(4):
            for numbers, rows in rounds_by_ledger(village, letters).items():
                ledger = dict(zip(village.paths(), numbers))
                for number, row in enumerate(rows):
                    self.assertEqual(round_at(village, letters, ledger, number), row)
                    self.assertEqual(round_number(village, tuple(row)), number)
                    self.assertEqual(next_round(village, row), rows[number + 1] if number + 1 < len(rows) else None)
                for thing in (len(rows), len(rows) + 1, 10 ** 40, -1):
                    self.assertEqual(raised(BadNumber, round_at, village, letters, ledger, thing).thing, thing)

    def test_count_begun(self):
        for village, letters in small_cases(3):
            there = rounds_by_ledger(village, letters)
            begun = {tuple(row[:size]) for row in rows_of(letters) for size in range(len(row) + 1)}
            for ledger in all_ledgers(village, 2):
                rows = [tuple(row) for row in there.get(tuple(ledger.values()), [])]
                for start in begun:
                    told = count_begun(village, letters, ledger, start)
                    self.assertEqual(told, len([row for row in rows if row[:len(start)] == start]))
        self.assertEqual(count_begun(star(), LETTERS, LEDGER, []), 30)
        self.assertEqual(count_begun(star(), LETTERS, LEDGER, ROUND), 1)
        self.assertEqual(count_begun(star(), LETTERS, NO_ROUND, []), 0)
        self.assertEqual(count_begun(star(), LETTERS, {path: 999999999 for path in LEDGER}, ["a"]), 0)

    def test_wrong(self):
        for thing in any_objects():
            self.assertIs(raised(BadLetters, round_at, star(), thing, None, None).thing, thing)
            self.assertIs(raised(BadLedger, round_at, star(), LETTERS, thing, None).thing, thing)
            for ledger in (LEDGER, NO_ROUND):
                self.assertIs(raised(BadNumber, round_at, star(), LETTERS, ledger, thing).thing, thing)
        self.assertEqual(raised(BadNumber, round_at, star(), LETTERS, NO_ROUND, 0).thing, 0)
        for function in (round_number, next_round):
            for thing in [None, True, 0, "a", "", {}, {"a": 1}, [], (), star(), any_objects]:
                self.assertEqual(raised(BadRound, function, star(), thing).index, 0)
            for thing in any_objects():
                self.assertEqual(raised(BadRound, function, star(), ["a", "b", thing]).index, 2)


class Turns(unittest.TestCase):
    def test_turns(self):
        self.assertEqual(turns_of(["b", "a", "a"]), [["a", "a", "b"], ["a", "b", "a"], ["b", "a", "a"]])
        self.assertEqual(turns_of(("b", "a", "b", "a")), [["a", "b", "a", "b"], ["b", "a", "b", "a"]])
        self.assertEqual(turns_of(["x9"]), [["x9"]])
        self.assertEqual(turns_of(["x", "x"]), [["x", "x"]])
        for size in range(1, 7):
            for row in product("ab", repeat=size):
                told = turns_of(list(row))
                self.assertEqual(told, sorted({tuple(turn): turn for turn in turned(row)}.values()))
                pieces = [many for many in range(1, size + 1) if size % many == 0 and row[:size // many] * many == row]
                self.assertEqual(len(told), size // max(pieces))

    def test_wrong(self):
        for thing in [None, True, 0, "ab", "", {}, {"a": 1}, [], (), star(), any_objects]:
            self.assertEqual(raised(BadRow, turns_of, thing).index, 0)
        for thing in any_objects() + ["abcdefghijklm", "1"]:
            if thing != "zz":
                self.assertEqual(raised(BadRow, turns_of, ["zz", "b", thing, 1]).index, 2)


if __name__ == "__main__":
    unittest.main()
