"""[42], [43], [49]: courses, weights, closed and opened."""

import unittest

from letterround.courses import ask_passes, closed, is_passes, opened, passes_of, weights
from letterround.errors import BadIndex, BadLetters, BadPasses, BadRound, NoEnd, NoHouse
from letterround.rounds import ledger_of
from tests.helpers import (HOUSES, LEDGER, LETTERS, ROUND, any_objects, bad_tables, lone, naive_passes, naive_ways,
                           raised, rows_of, small_cases, star)


class Courses(unittest.TestCase):
    def test_passes_of(self):
        self.assertEqual(passes_of(star(), list("cabad")), {("a", "b"): 4, ("b", "c"): 1, ("b", "d"): 1})
        self.assertEqual(list(passes_of(star(), ("d", "a"))), list(LEDGER))
        self.assertEqual(passes_of(star(), ["c", "c"]), {path: 0 for path in LEDGER})
        self.assertEqual(passes_of(lone(), ["x"]), {})
        for village, letters in small_cases(4):
            for row in list(rows_of(letters))[::3]:
                self.assertEqual(passes_of(village, row), naive_passes(village, row))
        for thing in [None, True, 0, "a", {}, {"a": 1}, [], (), star(), any_objects]:
            self.assertEqual(raised(BadRound, passes_of, star(), thing).index, 0)
        for thing in any_objects():
            self.assertEqual(raised(BadRound, passes_of, star(), ["a", thing, thing]).index, 1)

    def test_is_passes(self):
        self.assertIs(is_passes(star(), {("b", "d"): 0, ("b", "c"): 9, ("a", "b"): 1}), True)
        self.assertIs(is_passes(lone(), {}), True)
        for thing in any_objects() + bad_tables(LEDGER):
            self.assertIs(is_passes(star(), thing), False)
            self.assertIs(raised(BadPasses, ask_passes, star(), thing).thing, thing)
            self.assertIs(raised(BadPasses, closed, star(), thing, None, None).thing, thing)

    def test_weights(self):
        told = weights(star(), LETTERS, "c", "d")
        self.assertEqual(told, {"a": 4, "b": 2, "c": 1, "d": 1})
        self.assertEqual(list(told), HOUSES)
        self.assertEqual(weights(star(), LETTERS, "a", "a"), {"a": 2, "b": 2, "c": 2, "d": 2})
        self.assertEqual(weights(lone(), {"x": 1}, "x", "x"), {"x": 0})
        self.assertEqual(weights(star(), {"a": 0, "b": 1, "c": 0, "d": 0}, "b", "b"), {house: 0 for house in HOUSES})

    def test_ends_fit_just_if_some_course_has_them(self):
        for village, letters in small_cases(3):
            ends = {(row[0], row[-1]) for row in rows_of(letters)}
            for first in village.houses():
                for last in village.houses():
                    if (first, last) in ends:
                        told = {house: 2 * letters[house] - (house == first) - (house == last) for house in letters}
                        self.assertEqual(weights(village, letters, first, last), told)
                    else:
                        thing = raised(NoEnd, weights, village, letters, first, last).thing
                        self.assertEqual(thing, last if letters[first] else first)

    def test_weights_wrong(self):
        letters = {"a": 0, "b": 1, "c": 0, "d": 2}
        for thing in any_objects():
            self.assertIs(raised(BadLetters, weights, star(), thing, None, None).thing, thing)
            self.assertIs(raised(NoHouse, weights, star(), letters, thing, None).thing, thing)
            self.assertIs(raised(NoHouse, weights, star(), letters, "a", thing).thing, thing)
        ends = [("a", "c", "a"), ("b", "c", "c"), ("b", "b", "b"), ("a", "a", "a"), ("a", "b", "a"), ("d", "a", "a")]
        for first, last, thing in ends:
            self.assertEqual(raised(NoEnd, weights, star(), letters, first, last).thing, thing)
        self.assertEqual(weights(star(), letters, "d", "d"), {"a": 0, "b": 2, "c": 0, "d": 2})

    def test_closed(self):
        self.assertEqual(closed(star(), passes_of(star(), list("cabad")), "c", "d"), LEDGER)
        self.assertEqual(list(closed(star(), {path: 2 for path in LEDGER}, "a", "a")), list(LEDGER))
        for village, letters in small_cases(4):
            for row in list(rows_of(letters))[::2]:
                self.assertEqual(closed(village, passes_of(village, row), row[0], row[-1]), ledger_of(village, row))
        ways = naive_ways(star())
        for number in range(27):
            passes = {path: number // 3 ** place % 3 for place, path in enumerate(LEDGER)}
            for first in HOUSES:
                for last in HOUSES:
                    twice = {path: passes[path] + (set(path) <= set(ways[(first, last)])) for path in LEDGER}
                    whole = all(many % 2 == 0 for many in twice.values())
                    told = {path: twice[path] // 2 for path in LEDGER} if whole else None
                    self.assertEqual(closed(star(), passes, first, last), told)
        for thing in any_objects():
            self.assertIs(raised(NoHouse, closed, star(), LEDGER, thing, None).thing, thing)
            self.assertIs(raised(NoHouse, closed, star(), LEDGER, "a", thing).thing, thing)

    def test_opened(self):
        self.assertEqual(opened(star(), ROUND, 1), (list("cbada"), passes_of(star(), list("cbada"))))
        self.assertEqual(opened(star(), tuple(ROUND), 0), (ROUND, passes_of(star(), ROUND)))
        for village, letters in small_cases(4):
            for row in list(rows_of(letters))[::3]:
                for index in range(len(row)):
                    course = row[index:] + row[:index]
                    self.assertEqual(opened(village, row, index), (course, naive_passes(village, course)))
        for thing in any_objects() + [5, 6, 10 ** 20]:
            self.assertIs(raised(BadIndex, opened, star(), ROUND, thing).thing, thing)
            self.assertEqual(raised(BadRound, opened, star(), ["a", "zz"], thing).index, 1)
        self.assertEqual(raised(BadRound, opened, star(), [], 0).index, 0)

    def test_fact_opened_behind_its_longest_way_it_is_shortest(self):
        for village, letters in small_cases(4):
            ways = naive_ways(village)
            for row in list(rows_of(letters))[::3]:
                behind = [len(ways[(row[index - 1], row[index])]) for index in range(len(row))]
                length = [sum(opened(village, row, index)[1].values()) for index in range(len(row))]
                for index in range(len(row)):
                    self.assertEqual(length[index] == min(length), behind[index] == max(behind))


if __name__ == "__main__":
    unittest.main()
