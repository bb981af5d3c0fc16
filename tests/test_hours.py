"""[85] to [88]: hours of a round, tight paths, letters right behind one another, stretches."""

import unittest

from letterround.errors import (BadLedger, BadLengths, BadLetters, BadRound, NoHouse, NoPath, NoRound)
from letterround.firsthours import least_stretch
from letterround.hours import bar_between, can_follow, hours_of, tight_paths, whole_hours
from letterround.therule import paper_of, spare
from letterround.villages import Village, beside
from letterround.ways import beyond
from tests.helpers import (HOUSES, LEDGER, LETTERS, ROUND, any_objects, bad_tables, chain, lone, naive_ledger, naive_walk,
                           naive_ways, raised, rounds_by_ledger, small_cases, star, tree, two)

ONES = {path: 1 for path in LEDGER}
GREATER = ((star, (2, 0, 3, 2)), (chain, (2, 2, 1, 2)), (chain, (3, 1, 0, 3)), (tree, (1, 2, 2, 0, 2)), (tree, (2, 1, 0, 1, 2)),
           (two, (4, 4)), (star, (3, 1, 1, 2)))


def cases(most):
    """Quadruples of a small village, letters, a ledger, and all rounds with these."""
    there = list(small_cases(most))
    for make, numbers in GREATER:
        village = make()
        there.append((village, dict(zip(village.houses(), numbers))))
    for village, letters in there:
        found = rounds_by_ledger(village, letters)
        for numbers in found:
            yield village, letters, dict(zip(village.paths(), numbers)), found[numbers]


def some_lengths(village):
    """A few lengths of a village, 0 among them."""
    paths = village.paths()
    return [{path: 1 for path in paths}, {path: place * place % 5 for place, path in enumerate(paths)},
            {path: (7, 0, 2, 31)[place % 4] for place, path in enumerate(paths)}]


def naive_hours(village, row, lengths):
    """The hours of a row's houses, step by step."""
    hours = [0]
    for one, other in zip(row, row[1:]):
        walk = naive_ways(village)[(one, other)]
        hours.append(hours[-1] + sum(lengths[tuple(sorted(step))] for step in zip(walk, walk[1:])))
    return hours


def naive_stretches(village, row, house, far):
    """The lists of the houses of all stretches of a round from house by the path to far, with the letters' places."""
    there = set(beyond(village, house, far))
    if not there & set(row) or set(row) <= there:
        return []
    start = next(place for place in range(len(row)) if row[place] not in there)
    turned = list(row[start:]) + list(row[:start])
    told = []
    for place, one in enumerate(turned):
        if one in there:
            if turned[place - 1] not in there:
                told.append([])
            told[-1].append(one)
    return told


def pairs_side_by_side(rows):
    """The set of the pairs of houses of letters right behind one another in some of the rounds."""
    return {(row[place - 1], row[place]) for row in rows for place in range(len(row))}


class Hours(unittest.TestCase):
    def test_hours_of_all_small_rounds(self):
        for village, letters, ledger, rows in cases(3):
            for lengths in some_lengths(village):
                whole = whole_hours(village, ledger, lengths)
                for row in rows[::7]:
                    told = hours_of(village, row, lengths)
                    self.assertEqual(told, naive_hours(village, row, lengths))
                    self.assertEqual(naive_hours(village, row + row[:1], lengths)[-1], whole)

    def test_examples(self):
        self.assertEqual(whole_hours(star(), LEDGER, ONES), 8)
        self.assertEqual(hours_of(star(), ROUND, ONES), [0, 2, 3, 4, 6])
        self.assertEqual(hours_of(star(), tuple(ROUND), {**ONES, ("b", "c"): 1000000}), [0, 1000001, 2000001, 2000002, 2000004])
        self.assertEqual((hours_of(lone(), ["x"] * 3, {}), whole_hours(lone(), {}, {})), ([0, 0, 0], 0))

    def test_wrong(self):
        for thing in any_objects() + bad_tables(ONES):
            self.assertIs(raised(BadLengths, hours_of, star(), ROUND, thing).thing, thing)
            self.assertIs(raised(BadLengths, whole_hours, star(), LEDGER, thing).thing, thing)
        for thing in any_objects():
            self.assertIs(raised(BadLedger, whole_hours, star(), thing, None).thing, thing)
            self.assertEqual(raised(BadRound, hours_of, star(), ["a", thing, thing], None).index, 1)
        for thing in (None, True, 1, "a", {}, [], (), star(), {0: "a"}):
            self.assertEqual(raised(BadRound, hours_of, star(), thing, None).index, 0)


class Tight(unittest.TestCase):
    def test_tight_paths_and_what_stands_between(self):
        for village, letters, ledger, rows in cases(4):
            left_over = spare(village, letters, ledger)
            for house in village.houses():
                told = tight_paths(village, letters, ledger, house)
                gone = [other for other in beside(village, house) if ledger[tuple(sorted((house, other)))]]
                self.assertEqual(told, [other for other in gone if left_over[(house, other)] == 0])
                self.assertLessEqual(len(told), 2)
                if len(told) == 2:
                    self.assertEqual((gone, letters[house]), (told, 0))

    def test_can_follow_or_a_bar(self):
        for village, letters, ledger, rows in cases(4):
            there = pairs_side_by_side(rows)
            for one in village.houses():
                for other in village.houses():
                    bar = bar_between(village, letters, ledger, one, other)
                    self.assertIs(can_follow(village, letters, ledger, one, other), (one, other) in there)
                    self.assertEqual(bar is None, (one, other) in there)
                    self.assertEqual(bar, self.naive_bar(village, letters, ledger, one, other))

    def naive_bar(self, village, letters, ledger, one, other):
        for house in (one, other):
            if not letters[house]:
                return "letters", house
        if one == other and letters[one] == 1 != sum(letters.values()):
            return "letters", one
        row = naive_ways(village)[(one, other)]
        for place, house in enumerate(row):
            for far in tight_paths(village, letters, ledger, house):
                if far not in row[max(place - 1, 0):place + 2]:
                    return "tight", house, far
        return None

    def test_examples_and_edges(self):
        for house, told in zip(HOUSES, (["b"], [], ["b"], ["b"])):
            self.assertEqual(tight_paths(star(), LETTERS, LEDGER, house), told)
        self.assertEqual(bar_between(star(), LETTERS, LEDGER, "a", "a"), ("tight", "a", "b"))
        self.assertIsNone(bar_between(star(), LETTERS, LEDGER, "a", "c"))
        self.assertIs(can_follow(star(), LETTERS, LEDGER, "a", "c"), True)
        self.assertEqual(bar_between(star(), LETTERS, LEDGER, "c", "c"), ("letters", "c"))
        letters = {"a": 1, "b": 0, "c": 2, "d": 1}
        ledger = {("a", "b"): 1, ("b", "c"): 2, ("b", "d"): 1}
        self.assertEqual(tight_paths(star(), letters, ledger, "b"), ["c"])
        self.assertEqual(bar_between(star(), letters, ledger, "a", "d"), ("tight", "b", "c"))
        self.assertEqual(bar_between(star(), letters, ledger, "a", "b"), ("letters", "b"))
        self.assertEqual(bar_between(star(), letters, ledger, "b", "b"), ("letters", "b"))
        both = {"a": 1, "b": 0, "c": 1, "d": 0}
        self.assertEqual(tight_paths(star(), both, {**ONES, ("b", "d"): 0}, "b"), ["a", "c"])
        self.assertIs(can_follow(lone(), {"x": 1}, {}, "x", "x"), True)
        self.assertIs(can_follow(lone(), {"x": 2}, {}, "x", "x"), True)
        self.assertEqual(tight_paths(lone(), {"x": 2}, {}, "x"), [])
        self.assertIs(can_follow(two(), {"a": 0, "x": 1}, {("a", "x"): 0}, "x", "x"), True)

    def test_wrong(self):
        check_first(self, tight_paths, [None])
        check_first(self, can_follow, [None, None])
        check_first(self, bar_between, [None, None])
        for thing in any_objects():
            self.assertIs(raised(NoHouse, tight_paths, star(), LETTERS, LEDGER, thing).thing, thing)
            for function in (can_follow, bar_between):
                self.assertIs(raised(NoHouse, function, star(), LETTERS, LEDGER, thing, None).thing, thing)
                self.assertIs(raised(NoHouse, function, star(), LETTERS, LEDGER, "a", thing).thing, thing)


def check_first(test, function, rest):
    """Checks that BadLetters, BadLedger and NoRound come ahead of all else."""
    for thing in any_objects() + bad_tables(LETTERS) + [{house: 0 for house in HOUSES}]:
        test.assertIs(raised(BadLetters, function, star(), thing, None, *rest).thing, thing)
    for thing in any_objects() + bad_tables(LEDGER):
        test.assertIs(raised(BadLedger, function, star(), LETTERS, thing, *rest).thing, thing)
    for ledger in ({**LEDGER, ("a", "b"): 3}, {path: 0 for path in LEDGER}, {**LEDGER, ("b", "d"): 0}):
        paper = paper_of(star(), LETTERS, ledger)
        test.assertEqual(raised(NoRound, function, star(), LETTERS, ledger, *rest).paper, paper)


class Stretches(unittest.TestCase):
    def test_least_stretches_of_all_small_rounds(self):
        for village, letters, ledger, rows in cases(4):
            for house, far in [pair for path in village.paths() for pair in (path, path[::-1])]:
                found = [stretch for row in rows for stretch in naive_stretches(village, row, house, far)]
                unlike = {tuple(stretch) for stretch in found}
                for lengths in some_lengths(village):
                    times = [naive_hours(village, [house, *stretch, house], lengths)[-1] for stretch in unlike]
                    told = least_stretch(village, letters, ledger, lengths, house, far)
                    self.assertEqual(told, min(times) if times else None)

    def test_examples_and_edges(self):
        self.assertEqual(least_stretch(star(), LETTERS, LEDGER, ONES, "a", "b"), 2)
        self.assertEqual(least_stretch(star(), LETTERS, LEDGER, ONES, "b", "c"), 2)
        self.assertEqual(least_stretch(star(), LETTERS, LEDGER, {**ONES, ("b", "d"): 0}, "b", "d"), 0)
        letters = {"a": 0, "b": 0, "c": 2, "d": 1}
        ledger = {("a", "b"): 0, ("b", "c"): 1, ("b", "d"): 1}
        self.assertIsNone(least_stretch(star(), letters, ledger, ONES, "b", "a"))
        self.assertIsNone(least_stretch(star(), letters, ledger, ONES, "a", "b"))
        self.assertEqual(least_stretch(star(), letters, ledger, ONES, "c", "b"), 4)
        # Gone twice, with a path at far that has a spare of 1: a stretch has to go it, though there is a letter.
        letters = {"a": 2, "b": 1, "c": 3, "d": 0}
        ledger = {("a", "b"): 2, ("b", "c"): 2, ("b", "d"): 0}
        self.assertEqual(least_stretch(star(), letters, ledger, {**ONES, ("b", "c"): 9}, "a", "b"), 20)
        letters["b"] = 2
        self.assertEqual(least_stretch(star(), letters, ledger, {**ONES, ("b", "c"): 9}, "a", "b"), 2)

    def test_wrong(self):
        check_first(self, least_stretch, [None, None, None])
        given = (star(), LETTERS, LEDGER)
        for thing in any_objects() + bad_tables(ONES):
            self.assertIs(raised(BadLengths, least_stretch, *given, thing, None, None).thing, thing)
        for thing in any_objects():
            self.assertIs(raised(NoHouse, least_stretch, *given, ONES, thing, None).thing, thing)
            self.assertIs(raised(NoHouse, least_stretch, *given, ONES, "a", thing).thing, thing)
        for one, other in (("a", "c"), ("c", "c"), ("b", "b"), ("d", "a")):
            found = raised(NoPath, least_stretch, *given, ONES, one, other)
            self.assertEqual((found.one, found.other), (one, other))


if __name__ == "__main__":
    unittest.main()
