"""[9] to [13], [15]: letters, rounds, ledgers, signs, runs."""

import unittest

from letterround.errors import BadCounts, BadLetters, BadRound, BadRuns, NoHouse, NoPath
from letterround.letters import is_letters, letters_beyond, letters_of
from letterround.rounds import is_ledger, is_round, ledger_of, signs_at, walk_of
from letterround.runs import ask_counts, counts_of, is_counts, is_errands
from letterround.villages import beside
from letterround.ways import beyond
from tests.helpers import (HOUSES, LEDGER, LETTERS, ROUND, any_objects, bad_tables, lone, naive_ledger, naive_walk,
                           naive_ways, raised, rounds_by_ledger, small_cases, star, tree, turned)


class Letters(unittest.TestCase):
    def test_is_letters(self):
        self.assertTrue(is_letters(star(), {"d": 1, "c": 0, "b": 0, "a": 0}))
        self.assertTrue(is_letters(star(), LETTERS))
        self.assertTrue(is_letters(lone(), {"x": 1}))
        for thing in any_objects() + bad_tables(LETTERS) + [{house: 0 for house in HOUSES}]:
            self.assertIs(is_letters(star(), thing), False)

    def test_letters_beyond(self):
        self.assertEqual(letters_beyond(star(), LETTERS, "a", "b"), 3)
        self.assertEqual(letters_beyond(star(), LETTERS, "b", "a"), 2)
        for village, letters in small_cases(2):
            for house in village.houses():
                for other in beside(village, house):
                    many = sum(letters[far] for far in beyond(village, house, other))
                    self.assertEqual(letters_beyond(village, letters, house, other), many)

    def test_letters_beyond_wrong(self):
        for thing in any_objects() + bad_tables(LETTERS):
            self.assertIs(raised(BadLetters, letters_beyond, star(), thing, "zz", "zz").thing, thing)
        for thing in any_objects():
            self.assertIs(raised(NoHouse, letters_beyond, star(), LETTERS, thing, None).thing, thing)
            self.assertIs(raised(NoHouse, letters_beyond, star(), LETTERS, "a", thing).thing, thing)
        error = raised(NoPath, letters_beyond, star(), LETTERS, "c", "a")
        self.assertEqual((error.one, error.other), ("c", "a"))

    def test_letters_of(self):
        told = letters_of(star(), ("d", "a", "a"))
        self.assertEqual(told, {"a": 2, "b": 0, "c": 0, "d": 1})
        self.assertEqual(list(told), HOUSES)


class Rounds(unittest.TestCase):
    def test_bad_rounds(self):
        for function in (letters_of, walk_of, ledger_of, lambda village, row: signs_at(village, row, None)):
            for thing in [None, True, 0, "a", "", {"a": 1}, {}, [], (), star(), any_objects]:
                self.assertEqual(raised(BadRound, function, star(), thing).index, 0)
            for thing in any_objects():
                self.assertEqual(raised(BadRound, function, star(), ["a", "b", thing, None]).index, 2)

    def test_is_round(self):
        self.assertIs(is_round(star(), LETTERS, ROUND), True)
        self.assertIs(is_round(star(), LETTERS, tuple(ROUND)), True)
        more = [[], ROUND + ["a"], ROUND[1:], ["a", "b", "c", "d"], ["b"] + ROUND[1:], ROUND[:4] + ["zz"], "acbad"]
        for thing in any_objects() + more:
            self.assertIs(is_round(star(), LETTERS, thing), False)
        for thing in any_objects():
            self.assertIs(raised(BadLetters, is_round, star(), thing, ROUND).thing, thing)

    def test_walks(self):
        self.assertEqual(walk_of(star(), ROUND), list("abcbabdba"))
        self.assertEqual(walk_of(star(), ["c"]), ["c"])
        self.assertEqual(walk_of(star(), ("c", "c", "c")), ["c"])
        self.assertEqual(walk_of(lone(), ["x", "x"]), ["x"])

    def test_ledgers(self):
        told = ledger_of(star(), ROUND)
        self.assertEqual(told, LEDGER)
        self.assertEqual(list(told), list(LEDGER))
        self.assertEqual(ledger_of(star(), ["d"]), {path: 0 for path in LEDGER})
        self.assertEqual(ledger_of(lone(), ["x"]), {})

    def test_walks_and_ledgers_of_all_rounds(self):
        for village, letters in small_cases(4):
            for numbers, rows in rounds_by_ledger(village, letters).items():
                for row in rows:
                    self.assertEqual(walk_of(village, row), naive_walk(village, row + row[:1]))
                    self.assertEqual(tuple(ledger_of(village, row).values()), numbers)
                    self.assertEqual(letters_of(village, row), letters)

    def test_fact_letters_beyond_that_begin_behind_others(self):
        for village, letters in small_cases(4):
            for rows in rounds_by_ledger(village, letters).values():
                for path, number in ledger_of(village, rows[-1]).items():
                    side = beyond(village, *path)
                    row = rows[-1]
                    starts = [place for place in range(len(row)) if row[place] in side and row[place - 1] not in side]
                    self.assertEqual(len(starts), number)

    def test_is_ledger(self):
        self.assertIs(is_ledger(star(), {path: 0 for path in reversed(list(LEDGER))}), True)
        self.assertIs(is_ledger(lone(), {}), True)
        for thing in [thing for thing in any_objects() if thing != {}] + bad_tables(LEDGER):
            self.assertIs(is_ledger(star(), thing), False)
        self.assertIs(is_ledger(star(), {}), False)

    def test_signs(self):
        self.assertEqual(signs_at(star(), ROUND, "b"), ("a", "c", "b", "a", "d"))
        self.assertEqual(signs_at(star(), ROUND, "a"), ("a", "b", "a", "b"))
        self.assertEqual(signs_at(star(), ["c", "d", "a", "b", "a", "c"], "a"), ("b", "a", "b", "a"))
        self.assertEqual(signs_at(star(), ["a", "a", "c", "a"], "a"), ("a", "a", "b", "a"))
        self.assertEqual(signs_at(star(), ["a", "a", "c", "a"], "b"), ("a", "c"))
        self.assertEqual(signs_at(star(), ["c", "d", "c"], "a"), ("b",))
        self.assertEqual(signs_at(star(), ["c"], "c"), ("c",))
        for thing in any_objects():
            self.assertIs(raised(NoHouse, signs_at, star(), ROUND, thing).thing, thing)

    def test_signs_stand_as_often_as_the_path_is_gone(self):
        for village, letters in small_cases(4):
            for rows in rounds_by_ledger(village, letters).values():
                for row in rows[:5]:
                    for house in village.houses():
                        self.check_signs(village, letters, row, house)

    def check_signs(self, village, letters, row, house):
        ways = naive_ways(village)
        signs = signs_at(village, row, house)
        letter_signs = [(ways[(house, place)] + [house])[1] if place != house else house for place in row]
        self.assertEqual(signs[0], letter_signs[0])
        self.assertEqual(signs.count(house), letters[house])
        gone = dict(zip(village.paths(), naive_ledger(village, row)))
        for other in beside(village, house):
            number = gone[tuple(sorted([house, other]))]
            self.assertEqual(signs.count(other), 1 if signs == (other,) else number)
        for turn in turned(signs):
            self.assertFalse(len(turn) > 1 and turn[0] == turn[1] != house)


class Runs(unittest.TestCase):
    def test_errands(self):
        for thing in [[], (), [("a", "c"), ("d", "a")], (["a", "c"], ("a", "c"))]:
            self.assertIs(is_errands(star(), thing), True)
        for thing in any_objects():
            self.assertIs(is_errands(star(), thing), False)
        for thing in any_objects() + [("a", "a"), "ab", ("a",), ("a", "b", "c"), ("a", "zz"), (["a"], "b"), {"a": "b"}]:
            self.assertIs(is_errands(star(), [("a", "b"), thing]), False)
            self.assertEqual(raised(BadRuns, counts_of, star(), [("a", "b"), thing, 1]).index, 1)
        for thing in [None, True, 0, "ab", {}, {"a": "b"}, star(), any_objects]:
            self.assertEqual(raised(BadRuns, counts_of, star(), thing).index, 0)

    def test_counts_of(self):
        by_path = {("a", "b"): 2, ("b", "c"): 1, ("b", "d"): 1}
        by_house = {"a": 2, "b": 0, "c": 1, "d": 1}
        for errands in ([("a", "c"), ("d", "a")], [("c", "a"), ("a", "d")], (["d", "a"], ["a", "c"])):
            told = counts_of(star(), errands)
            self.assertEqual(told, (by_path, by_house))
            self.assertEqual([list(part) for part in told], [list(by_path), list(by_house)])
        nothing = ({path: 0 for path in by_path}, {house: 0 for house in by_house})
        self.assertEqual(counts_of(star(), []), nothing)
        self.assertEqual(counts_of(lone(), []), ({}, {"x": 0}))
        errands = [("e", "a"), ("b", "e"), ("c", "d"), ("e", "a")]
        by_path, by_house = counts_of(tree(), errands)
        for path in tree().paths():
            many = sum(set(path) <= set(naive_ways(tree())[run]) for run in errands)
            self.assertEqual(by_path[path], many)
        self.assertEqual(by_house, {"a": 2, "b": 1, "c": 1, "d": 1, "e": 3})

    def test_is_counts(self):
        by_path, by_house = counts_of(star(), [("a", "c")])
        self.assertIs(is_counts(star(), (by_path, by_house)), True)
        self.assertIsNone(ask_counts(star(), (by_path, by_house)))
        self.assertIs(is_counts(star(), [by_path, by_house]), True)
        self.assertIs(is_counts(lone(), [{}, {"x": 0}]), True)
        bad = [(thing, by_house) for thing in bad_tables(by_path)] + [(by_path, thing) for thing in bad_tables(by_house)]
        bad += [(by_house, by_path), (by_path,), (by_path, by_house, by_house), {0: by_path, 1: by_house}]
        for thing in any_objects() + bad:
            self.assertIs(is_counts(star(), thing), False)
            self.assertIs(raised(BadCounts, ask_counts, star(), thing).thing, thing)


if __name__ == "__main__":
    unittest.main()
