"""[125] to [129]: rounds drawn evenly: how often paths are gone, ledgers, ways, first and next letters."""

import unittest
from collections import Counter
from fractions import Fraction
from itertools import combinations, product

from letterround.counting import count_rounds
from letterround.errors import (BadBegun, BadGiven, BadLedger, BadLengths, BadLetters, BadNumber, LostNow, NoHouse, NoPath,
                                NoRound)
from letterround.numbering import round_at
from letterround.roundchances import (drawn_round, first_chances, ledger_chance, mean_passes, mean_walk, next_chances,
                                      path_chances, some_chance, walk_chance)
from letterround.therule import paper_of
from letterround.villages import Village
from tests.helpers import (HOUSES, LEDGER, LETTERS, all_ledgers, any_objects, bad_tables, chain, lone, naive_walk, raised,
                           rounds_by_ledger, small_cases, star, tree, two)
from tests.test_hours import check_first, some_lengths

ONES = {path: 1 for path in LEDGER}
SIX = Village(list("abcdef"), [("a", "b"), ("b", "c"), ("b", "d"), ("d", "e"), ("d", "f")])
GREATER = ((star, (2, 0, 3, 2)), (chain, (2, 2, 1, 2)), (tree, (1, 2, 2, 0, 2)), (tree, (2, 1, 0, 1, 2)), (two, (4, 4)),
           (lambda: SIX, (1, 0, 2, 0, 2, 1)), (lambda: SIX, (2, 1, 1, 1, 1, 1)))


def cases(most):
    """Triples: a small village, letters, the dict from the numbers of ledgers to how many rounds have it."""
    there = list(small_cases(most))
    for make, numbers in GREATER:
        village = make()
        there.append((village, dict(zip(village.houses(), numbers))))
    for village, letters in there:
        yield village, letters, {gone: len(rows) for gone, rows in rounds_by_ledger(village, letters).items()}


def pair_of(over, under):
    """A fraction as it is told."""
    told = Fraction(over, under)
    return told.numerator, told.denominator


class Paths(unittest.TestCase):
    def test_chances_and_means_of_all_rounds(self):
        for village, letters, there in cases(5):
            whole = sum(there.values())
            means = {}
            for place, (one, other) in enumerate(village.paths()):
                found = Counter()
                for gone, many in there.items():
                    found[gone[place]] += many
                told = [(times, pair_of(found[times], whole)) for times in sorted(found)]
                self.assertEqual(list(path_chances(village, letters, one, other).items()), told)
                self.assertEqual(list(path_chances(village, letters, other, one).items()), told)
                means[(one, other)] = pair_of(sum(times * found[times] for times in found), whole)
            self.assertEqual(list(mean_passes(village, letters).items()), list(means.items()))

    def test_chances_of_ledgers_and_of_some_paths(self):
        for village, letters, there in cases(4):
            whole = sum(there.values())
            ledgers = list(there) + [tuple(ledger.values()) for ledger in all_ledgers(village, 1)]
            for gone in ledgers:
                ledger = dict(zip(village.paths(), gone))
                self.assertEqual(ledger_chance(village, letters, ledger), pair_of(there.get(gone, 0), whole))
                for size in range(len(ledger) + 1):
                    for paths in list(combinations(ledger, size))[::2]:
                        some = {path: ledger[path] for path in paths}
                        many = sum(there[row] for row in there if all(row[list(ledger).index(path)] == some[path] for path in some))
                        self.assertEqual(some_chance(village, letters, some), pair_of(many, whole))

    def test_examples_and_edges(self):
        self.assertEqual(path_chances(star(), LETTERS, "b", "a"), {1: (1, 2), 2: (1, 2)})
        self.assertEqual(mean_passes(star(), LETTERS), {("a", "b"): (3, 2), ("b", "c"): (1, 1), ("b", "d"): (1, 1)})
        self.assertEqual(ledger_chance(star(), LETTERS, LEDGER), (1, 2))
        self.assertEqual(ledger_chance(star(), LETTERS, {**LEDGER, ("a", "b"): 3}), (0, 1))
        one = {"a": 1, "b": 0, "c": 0, "d": 0}
        self.assertEqual(path_chances(star(), one, "a", "b"), {0: (1, 1)})
        self.assertEqual(mean_passes(star(), one), {path: (0, 1) for path in LEDGER})
        self.assertEqual((mean_passes(lone(), {"x": 3}), ledger_chance(lone(), {"x": 3}, {}), some_chance(lone(), {"x": 1}, {})),
                         ({}, (1, 1), (1, 1)))
        self.assertEqual(some_chance(star(), LETTERS, {}), (1, 1))
        self.assertEqual(some_chance(star(), LETTERS, {("a", "b"): 2}), (1, 2))
        self.assertEqual(some_chance(star(), LETTERS, {("a", "b"): 2, ("b", "d"): 2}), (0, 1))
        self.assertEqual(some_chance(star(), LETTERS, {("a", "b"): 999999999}), (0, 1))
        self.assertEqual(some_chance(star(), one, {("a", "b"): 0}), (1, 1))

    def test_wrong(self):
        check_letters(self, path_chances, [None, None])
        check_letters(self, mean_passes, [])
        check_letters(self, ledger_chance, [None])
        check_letters(self, some_chance, [None])
        for thing in any_objects():
            self.assertIs(raised(NoHouse, path_chances, star(), LETTERS, thing, None).thing, thing)
            self.assertIs(raised(NoHouse, path_chances, star(), LETTERS, "a", thing).thing, thing)
        found = raised(NoPath, path_chances, star(), LETTERS, "c", "a")
        self.assertEqual((found.one, found.other), ("c", "a"))
        for thing in any_objects() + bad_tables(LEDGER):
            self.assertIs(raised(BadLedger, ledger_chance, star(), LETTERS, thing).thing, thing)
        bad = [thing for thing in any_objects() if thing != {}]
        for thing in bad + [{("b", "a"): 1}, {("a", "c"): 1}, {"a": 1}, {("a", "b"): -1}, {("a", "b"): True}, {("a", "b"): None},
                            {**LEDGER, ("a", "zz"): 1}, [("a", "b"), 1], [(("a", "b"), 1)]]:
            self.assertIs(raised(BadGiven, some_chance, star(), LETTERS, thing).thing, thing)


def check_letters(test, function, rest):
    for thing in any_objects() + bad_tables(LETTERS) + [{house: 0 for house in HOUSES}]:
        test.assertIs(raised(BadLetters, function, star(), thing, *rest).thing, thing)


class Walks(unittest.TestCase):
    def test_walks_of_all_rounds(self):
        for village, letters, there in cases(5):
            whole = sum(there.values())
            for lengths in some_lengths(village) + [{path: 0 for path in village.paths()}]:
                walks = Counter()
                for gone, many in there.items():
                    walks[2 * sum(x * y for x, y in zip(gone, lengths.values()))] += many
                self.assertEqual(mean_walk(village, letters, lengths), pair_of(sum(x * y for x, y in walks.items()), whole))
                chances = (pair_of(walks[min(walks)], whole), pair_of(walks[max(walks)], whole))
                self.assertEqual(walk_chance(village, letters, lengths), chances)

    def test_lengths_are_those_that_are_walked(self):
        rows = [row for rows in rounds_by_ledger(star(), LETTERS).values() for row in rows]
        walks = [len(naive_walk(star(), row + row[:1])) - 1 for row in rows]
        self.assertEqual(mean_walk(star(), LETTERS, ONES), pair_of(sum(walks), len(walks)))

    def test_fact_least_and_greatest_ledgers_alone(self):
        for village, letters, there in cases(4):
            lengths = {path: 1 + place for place, path in enumerate(village.paths())}
            ends = [dict(zip(village.paths(), pick(there, key=sum))) for pick in (min, max)]
            self.assertEqual(walk_chance(village, letters, lengths),
                             tuple(ledger_chance(village, letters, ledger) for ledger in ends))

    def test_examples_and_edges(self):
        self.assertEqual(mean_walk(star(), LETTERS, ONES), (7, 1))
        self.assertEqual(walk_chance(star(), LETTERS, ONES), ((1, 2), (1, 2)))
        nothing = {path: 0 for path in LEDGER}
        self.assertEqual((mean_walk(star(), LETTERS, nothing), walk_chance(star(), LETTERS, nothing)), ((0, 1), ((1, 1), (1, 1))))
        self.assertEqual((mean_walk(lone(), {"x": 2}, {}), walk_chance(lone(), {"x": 2}, {})), ((0, 1), ((1, 1), (1, 1))))

    def test_wrong(self):
        for function in (mean_walk, walk_chance):
            check_letters(self, function, [None])
            for thing in any_objects() + bad_tables(ONES):
                self.assertIs(raised(BadLengths, function, star(), LETTERS, thing).thing, thing)


class Drawn(unittest.TestCase):
    def test_all_rounds_are_drawn(self):
        for village, letters, there in cases(4):
            for gone, rows in rounds_by_ledger(village, letters).items():
                ledger = dict(zip(village.paths(), gone))
                for number in range(0, len(rows), 5):
                    asked = []

                    def chooser(many):
                        asked.append(many)
                        return number

                    self.assertEqual(drawn_round(village, letters, ledger, chooser), rows[number])
                    self.assertEqual(asked, [len(rows)])

    def test_what_a_chooser_tells(self):
        for thing in any_objects() + [30, 999999999, -1]:
            self.assertIs(raised(BadNumber, drawn_round, star(), LETTERS, LEDGER, lambda many: thing).thing, thing)
        self.assertEqual(drawn_round(star(), LETTERS, LEDGER, lambda many: many - 1), round_at(star(), LETTERS, LEDGER, 29))

        def chooser(many):
            raise KeyError(many)

        with self.assertRaises(KeyError):
            drawn_round(star(), LETTERS, LEDGER, chooser)

    def test_wrong(self):
        def never(many):
            raise AssertionError("asked")

        check_first(self, drawn_round, [never])
        check_first(self, first_chances, [])
        check_first(self, next_chances, [None])


class FirstAndNext(unittest.TestCase):
    def test_first_and_next_letters_of_all_rounds(self):
        for village, letters, there in cases(4):
            for gone, rows in list(rounds_by_ledger(village, letters).items())[:3]:
                ledger = dict(zip(village.paths(), gone))
                firsts = Counter(row[0] for row in rows)
                told = [(house, pair_of(firsts[house], len(rows))) for house in sorted(firsts)]
                self.assertEqual(list(first_chances(village, letters, ledger).items()), told)
                begun = {tuple(row[:size]) for row in rows[::7] for size in range(len(row) + 1)}
                for ahead in begun:
                    behind = [row for row in rows if tuple(row[:len(ahead)]) == ahead]
                    nexts = Counter(row[len(ahead)] for row in behind if len(row) > len(ahead))
                    told = [(house, pair_of(nexts[house], len(behind))) for house in sorted(nexts)]
                    self.assertEqual(list(next_chances(village, letters, ledger, ahead).items()), told)

    def test_fact_chances_of_a_whole_round(self):
        for village, letters, there in cases(4):
            for gone, rows in rounds_by_ledger(village, letters).items():
                ledger = dict(zip(village.paths(), gone))
                for row in rows[::20]:
                    chance = Fraction(1)
                    for place, house in enumerate(row):
                        chance *= Fraction(*next_chances(village, letters, ledger, row[:place])[house])
                    self.assertEqual(chance, Fraction(1, count_rounds(village, letters, ledger)))

    def test_what_is_lost_now(self):
        for village, letters in ((star(), LETTERS), (chain(), {"a": 1, "b": 2, "c": 0, "d": 1})):
            for gone, rows in rounds_by_ledger(village, letters).items():
                ledger = dict(zip(village.paths(), gone))
                for size in range(1, sum(letters.values()) + 1):
                    for begun in product([house for house in letters if letters[house]], repeat=size):
                        if all(begun.count(house) <= letters[house] for house in begun):
                            if any(tuple(row[:size]) == begun for row in rows):
                                self.assertIs(next_chances(village, letters, ledger, begun).__class__, dict)
                            else:
                                raised(LostNow, next_chances, village, letters, ledger, begun)

    def test_examples_and_edges(self):
        self.assertEqual(next_chances(star(), LETTERS, LEDGER, ["c", "a"]), {"b": (1, 2), "d": (1, 2)})
        self.assertEqual(first_chances(star(), LETTERS, LEDGER), {"a": (2, 5), "b": (1, 5), "c": (1, 5), "d": (1, 5)})
        self.assertEqual(next_chances(star(), LETTERS, LEDGER, []), first_chances(star(), LETTERS, LEDGER))
        self.assertEqual(next_chances(star(), LETTERS, LEDGER, ["a", "c", "b", "a", "d"]), {})
        raised(LostNow, next_chances, star(), LETTERS, LEDGER, ["a", "a"])
        raised(LostNow, next_chances, star(), LETTERS, LEDGER, ["a", "a", "c", "b", "d"])
        self.assertEqual((first_chances(lone(), {"x": 2}, {}), next_chances(lone(), {"x": 2}, {}, ("x", "x"))), ({"x": (1, 1)}, {}))

    def test_wrong(self):
        for index, begun in ((0, None), (0, True), (0, "a"), (0, {}), (0, star()), (1, ["a", None]), (1, ["a", "zz"]),
                             (2, ["a", "a", "a"]), (1, ["b", "b", None])):
            self.assertEqual(raised(BadBegun, next_chances, star(), LETTERS, LEDGER, begun).index, index)
        for thing in any_objects():
            self.assertEqual(raised(BadBegun, next_chances, star(), LETTERS, LEDGER, ["a", "a", thing, thing]).index, 2)
        bad = {**LEDGER, ("a", "b"): 3}
        self.assertEqual(raised(NoRound, next_chances, star(), LETTERS, bad, None).paper, paper_of(star(), LETTERS, bad))


if __name__ == "__main__":
    unittest.main()
