"""[44] to [48], and what [49] and [50] say of them: which passes courses have, longest and shortest courses."""

import unittest
from functools import lru_cache

from letterround.courselengths import (longest_course, longest_ends, near_end_house, shortest_course, shortest_ends)
from letterround.coursenumbers import course_paces, least_passes, most_passes
from letterround.courserule import course_ends, course_fault, course_with, odd_houses
from letterround.courses import closed, opened, weights
from letterround.errors import BadLengths, BadLetters, BadNumber, BadPasses, NoEnd, NoHouse
from letterround.lengths import gathering
from letterround.therule import can_be, parting_paths
from letterround.villages import Village, beside
from tests.helpers import (HOUSES, LEDGER, LETTERS, all_ledgers, any_objects, bad_tables, lone, naive_passes,
                           naive_ways, raised, rounds_by_ledger, rows_of, small_cases, star, two)

ONES = {path: 1 for path in LEDGER}
NONE = {path: 0 for path in LEDGER}


@lru_cache(maxsize=None)
def _by_ends(houses, paths, numbers):
    village = Village(list(houses), list(paths))
    told = {}
    for row in rows_of(dict(zip(houses, numbers))):
        passes = naive_passes(village, row)
        told.setdefault((row[0], row[-1]), {})[tuple(passes[path] for path in village.paths())] = row
    return told


def courses_by_ends(village, letters):
    """The dict from the ends of all courses to the dict from the numbers of their passes to one of them."""
    numbers = tuple(letters[house] for house in village.houses())
    return _by_ends(tuple(village.houses()), tuple(village.paths()), numbers)


def some_lengths(village):
    """Lengths of several kinds, some of them 0."""
    for kind in range(3):
        yield {path: (7 * place + 2 * kind) % (2 + kind) for place, path in enumerate(village.paths())}


def naive_fault(village, letters, passes, first, last):
    """[44]'s faults, all gathered, the first one told."""
    on_way = [set(pair) for pair in zip(naive_ways(village)[(first, last)], naive_ways(village)[(first, last)][1:])]
    live = parting_paths(village, letters)
    weight = weights(village, letters, first, last)
    told = [("odd", *path) for path in passes if passes[path] % 2 != (set(path) in on_way)]
    told += [("still", *path) for path in passes if path in live and passes[path] == 0]
    told += [("idle", *path) for path in passes if path not in live and passes[path]]
    for house in village.houses():
        for other in beside(village, house):
            here = {path: passes[path] for path in passes if house in path}
            mine = here.pop(tuple(sorted([house, other])))
            if mine > sum(here.values()) + weight[house]:
                told.append(("much", house, other))
    return told[0] if told else None


class Rule(unittest.TestCase):
    def test_just_one_a_course_or_a_fault(self):
        for village, letters in small_cases(5):
            there = courses_by_ends(village, letters)
            for (first, last), found in there.items():
                most = max([max(numbers, default=0) for numbers in found]) + 1
                if len(village) > 4:
                    most = min(most, 2)
                for passes in list(all_ledgers(village, most))[::2] + [dict(zip(village.paths(), t)) for t in found]:
                    fault = course_fault(village, letters, passes, first, last)
                    self.assertEqual(fault, naive_fault(village, letters, passes, first, last))
                    row = course_with(village, letters, passes, first, last)
                    self.assertEqual(fault is None, tuple(passes.values()) in found)
                    if fault is not None:
                        self.assertIsNone(row)
                    else:
                        self.assertEqual((row[0], row[-1], row.__class__), (first, last, list))
                        self.assertEqual({house: row.count(house) for house in village.houses()}, letters)
                        self.assertEqual(naive_passes(village, row), passes)

    def test_faults_in_their_order(self):
        self.assertEqual(course_fault(star(), LETTERS, {("a", "b"): 4, ("b", "c"): 2, ("b", "d"): 2}, "a", "a"),
                         ("much", "a", "b"))
        self.assertIsNone(course_fault(star(), LETTERS, {("a", "b"): 4, ("b", "c"): 1, ("b", "d"): 1}, "c", "d"))
        letters = {"a": 1, "b": 1, "c": 1, "d": 0}
        self.assertEqual(course_fault(star(), letters, {("a", "b"): 0, ("b", "c"): 2, ("b", "d"): 3}, "a", "b"),
                         ("odd", "a", "b"))
        self.assertEqual(course_fault(star(), letters, {("a", "b"): 1, ("b", "c"): 0, ("b", "d"): 3}, "a", "b"),
                         ("odd", "b", "d"))
        self.assertEqual(course_fault(star(), letters, {("a", "b"): 1, ("b", "c"): 0, ("b", "d"): 2}, "a", "b"),
                         ("still", "b", "c"))
        self.assertEqual(course_fault(star(), letters, {("a", "b"): 1, ("b", "c"): 2, ("b", "d"): 2}, "a", "b"),
                         ("idle", "b", "d"))
        self.assertEqual(course_fault(star(), letters, {("a", "b"): 3, ("b", "c"): 4, ("b", "d"): 0}, "a", "b"),
                         ("much", "a", "b"))
        self.assertEqual(course_fault(star(), letters, {("a", "b"): 1, ("b", "c"): 4, ("b", "d"): 0}, "a", "b"),
                         ("much", "b", "c"))
        self.assertIsNone(course_with(star(), letters, {("a", "b"): 1, ("b", "c"): 4, ("b", "d"): 0}, "a", "b"))

    def test_one_house_alone_and_one_letter(self):
        self.assertIsNone(course_fault(lone(), {"x": 1}, {}, "x", "x"))
        self.assertEqual(course_with(lone(), {"x": 1}, {}, "x", "x"), ["x"])
        self.assertEqual(course_with(lone(), {"x": 3}, {}, "x", "x"), ["x", "x", "x"])
        alone = {"a": 0, "b": 0, "c": 1, "d": 0}
        self.assertEqual(course_with(star(), alone, NONE, "c", "c"), ["c"])
        self.assertEqual(course_fault(star(), alone, {**NONE, ("b", "d"): 2}, "c", "c"), ("idle", "b", "d"))
        self.assertEqual(course_fault(star(), alone, ONES, "c", "c"), ("odd", "a", "b"))
        self.assertEqual(course_with(two(), {"a": 1, "x": 1}, {("a", "x"): 1}, "x", "a"), ["x", "a"])

    def test_odd_houses(self):
        self.assertEqual(odd_houses(star(), {("a", "b"): 4, ("b", "c"): 1, ("b", "d"): 1}), ["c", "d"])
        self.assertEqual(odd_houses(star(), ONES), HOUSES)
        self.assertEqual(odd_houses(star(), NONE), [])
        self.assertEqual(odd_houses(lone(), {}), [])
        for passes in all_ledgers(star(), 3):
            told = [house for house in HOUSES if sum(passes[path] % 2 for path in passes if house in path) % 2]
            self.assertEqual(odd_houses(star(), passes), told)

    def test_course_ends(self):
        for village, letters in small_cases(4):
            there = courses_by_ends(village, letters)
            for passes in all_ledgers(village, 3 if len(village) < 5 else 2):
                numbers = tuple(passes.values())
                self.assertEqual(course_ends(village, letters, passes), sorted(p for p in there if numbers in there[p]))
        self.assertEqual(course_ends(star(), LETTERS, {("a", "b"): 4, ("b", "c"): 1, ("b", "d"): 1}),
                         [("c", "d"), ("d", "c")])
        self.assertEqual(course_ends(star(), LETTERS, {path: 2 for path in LEDGER}), [("a", "a")])

    def test_wrong(self):
        letters = {"a": 0, "b": 1, "c": 0, "d": 2}
        for function in (course_fault, course_with):
            for thing in any_objects() + bad_tables(LETTERS):
                self.assertIs(raised(BadLetters, function, star(), thing, None, None, None).thing, thing)
            for thing in any_objects() + bad_tables(LEDGER):
                self.assertIs(raised(BadPasses, function, star(), letters, thing, None, None).thing, thing)
            for thing in any_objects():
                self.assertIs(raised(NoHouse, function, star(), letters, NONE, thing, None).thing, thing)
                self.assertIs(raised(NoHouse, function, star(), letters, NONE, "a", thing).thing, thing)
            for first, last, thing in [("a", "c", "a"), ("b", "c", "c"), ("b", "b", "b"), ("a", "a", "a")]:
                self.assertEqual(raised(NoEnd, function, star(), letters, NONE, first, last).thing, thing)
        for thing in any_objects() + bad_tables(LEDGER):
            self.assertIs(raised(BadPasses, odd_houses, star(), thing).thing, thing)
            self.assertIs(raised(BadPasses, course_ends, star(), letters, thing).thing, thing)
        for thing in any_objects() + bad_tables(LETTERS):
            self.assertIs(raised(BadLetters, course_ends, star(), thing, None).thing, thing)


class Numbers(unittest.TestCase):
    def test_most_and_least_and_paces_of_all_small_villages(self):
        for village, letters in small_cases(5):
            for (first, last), found in courses_by_ends(village, letters).items():
                most = most_passes(village, letters, first, last)
                least = least_passes(village, letters, first, last)
                self.assertEqual(tuple(most.values()), tuple(map(max, zip(*found))))
                self.assertEqual(tuple(least.values()), tuple(map(min, zip(*found))))
                self.assertIn(tuple(most.values()), found)
                self.assertIn(tuple(least.values()), found)
                self.assertEqual((list(most), list(least)), (village.paths(), village.paths()))
                self.assertEqual(course_paces(village, letters, first, last), sorted({sum(numbers) for numbers in found}))

    def test_examples(self):
        self.assertEqual(weights(star(), LETTERS, "c", "d"), {"a": 4, "b": 2, "c": 1, "d": 1})
        self.assertEqual(most_passes(star(), LETTERS, "c", "d"), {("a", "b"): 4, ("b", "c"): 1, ("b", "d"): 1})
        self.assertEqual(least_passes(star(), LETTERS, "c", "d"), {("a", "b"): 2, ("b", "c"): 1, ("b", "d"): 1})
        self.assertEqual(course_paces(star(), LETTERS, "c", "d"), [4, 6])
        twice = {path: 2 for path in LEDGER}
        self.assertEqual(most_passes(star(), LETTERS, "a", "a"), twice)
        self.assertEqual(least_passes(star(), LETTERS, "a", "a"), twice)
        self.assertEqual(course_paces(lone(), {"x": 2}, "x", "x"), [0])
        self.assertEqual(most_passes(lone(), {"x": 1}, "x", "x"), {})

    def test_wrong(self):
        letters = {"a": 0, "b": 1, "c": 0, "d": 2}
        for function in (most_passes, least_passes, course_paces):
            for thing in any_objects() + bad_tables(LETTERS):
                self.assertIs(raised(BadLetters, function, star(), thing, None, None).thing, thing)
            for thing in any_objects():
                self.assertIs(raised(NoHouse, function, star(), letters, thing, None).thing, thing)
                self.assertIs(raised(NoHouse, function, star(), letters, "a", thing).thing, thing)
            for first, last, thing in [("a", "c", "a"), ("d", "c", "c"), ("b", "b", "b"), ("a", "d", "a")]:
                self.assertEqual(raised(NoEnd, function, star(), letters, first, last).thing, thing)


class Lengths(unittest.TestCase):
    def test_longest_and_shortest_of_all_small_villages(self):
        for village, letters in small_cases(4):
            there = courses_by_ends(village, letters)
            for lengths in some_lengths(village):
                worth = list(lengths.values())
                of_ends = {}
                for (first, last), found in there.items():
                    known = {numbers: sum(x * y for x, y in zip(numbers, worth)) for numbers in found}
                    of_ends[(first, last)] = (min(known.values()), max(known.values()))
                    for function, best in ((shortest_course, min(known.values())), (longest_course, max(known.values()))):
                        length, row = function(village, letters, lengths, first, last)
                        self.assertEqual((length, row[0], row[-1]), (best, first, last))
                        self.assertEqual(known[tuple(naive_passes(village, row).values())], best)
                        self.assertEqual({house: row.count(house) for house in village.houses()}, letters)
                    self.check_near_end(village, letters, lengths, first, last, max(known.values()))
                most = max(high for low, high in of_ends.values())
                least = min(low for low, high in of_ends.values())
                self.assertEqual(longest_ends(village, letters, lengths),
                                 (most, sorted(ends for ends in of_ends if of_ends[ends][1] == most)))
                self.assertEqual(shortest_ends(village, letters, lengths),
                                 (least, sorted(ends for ends in of_ends if of_ends[ends][0] == least)))

    def check_near_end(self, village, letters, lengths, first, last, longest):
        worth = {}
        for house in village.houses():
            ways = [naive_ways(village)[(house, end)] for end in (first, last)]
            gone = sum(lengths[tuple(sorted(step))] for way in ways for step in zip(way, way[1:]))
            worth[house] = 2 * gathering(village, letters, lengths, house) - gone
        for bound in range(longest + 3):
            told = [house for house in village.houses() if worth[house] < bound]
            self.assertEqual(near_end_house(village, letters, lengths, first, last, bound), told[0] if told else None)
            self.assertEqual(bool(told), bound > longest)

    def test_fact_the_shortest_of_all_ends(self):
        for village, letters in small_cases(4):
            served = [house for house in letters if letters[house]]
            for lengths in some_lengths(village):
                live = sum(lengths[path] for path in parting_paths(village, letters))
                ways = [naive_ways(village)[(one, other)] for one in served for other in served]
                longest = max(sum(lengths[tuple(sorted(step))] for step in zip(way, way[1:])) for way in ways)
                self.assertEqual(shortest_ends(village, letters, lengths)[0], 2 * live - longest)

    def test_examples(self):
        length, row = longest_course(star(), LETTERS, ONES, "c", "d")
        self.assertEqual((length, row), (6, ["c", "a", "b", "a", "d"]))
        self.assertEqual(near_end_house(star(), LETTERS, ONES, "c", "d", 7), "a")
        self.assertIsNone(near_end_house(star(), LETTERS, ONES, "c", "d", 6))
        with_b = [("a", "b"), ("b", "a"), ("b", "c"), ("b", "d"), ("c", "b"), ("d", "b")]
        self.assertEqual(longest_ends(star(), LETTERS, ONES), (7, with_b))
        without = [(one, other) for one in "acd" for other in "acd" if one != other]
        self.assertEqual(shortest_ends(star(), LETTERS, ONES), (4, without))

    def test_edges(self):
        self.assertEqual(longest_course(lone(), {"x": 2}, {}, "x", "x"), (0, ["x", "x"]))
        self.assertEqual(shortest_course(lone(), {"x": 1}, {}, "x", "x"), (0, ["x"]))
        self.assertEqual(longest_ends(lone(), {"x": 1}, {}), (0, [("x", "x")]))
        self.assertEqual(shortest_ends(lone(), {"x": 2}, {}), (0, [("x", "x")]))
        self.assertEqual(shortest_ends(two(), {"x": 1, "a": 1}, {("a", "x"): 5}), (5, [("a", "x"), ("x", "a")]))
        self.assertEqual(longest_ends(two(), {"x": 2, "a": 1}, {("a", "x"): 0}), (0, [("a", "x"), ("x", "a"), ("x", "x")]))
        self.assertEqual(shortest_ends(two(), {"x": 2, "a": 1}, {("a", "x"): 0}), (0, [("a", "x"), ("x", "a"), ("x", "x")]))
        self.assertIsNone(near_end_house(lone(), {"x": 1}, {}, "x", "x", 0))
        self.assertEqual(near_end_house(lone(), {"x": 1}, {}, "x", "x", 1), "x")

    def test_wrong(self):
        letters = {"a": 0, "b": 1, "c": 0, "d": 2}
        for function, rest in ((longest_course, 2), (shortest_course, 2), (near_end_house, 3), (longest_ends, 0),
                               (shortest_ends, 0)):
            for thing in any_objects() + bad_tables(LETTERS):
                self.assertIs(raised(BadLetters, function, star(), thing, *[None] * (rest + 1)).thing, thing)
            for thing in any_objects() + bad_tables(LEDGER):
                self.assertIs(raised(BadLengths, function, star(), letters, thing, *[None] * rest).thing, thing)
        for function, rest in ((longest_course, []), (shortest_course, []), (near_end_house, [None])):
            for thing in any_objects():
                self.assertIs(raised(NoHouse, function, star(), letters, ONES, thing, None, *rest).thing, thing)
                self.assertIs(raised(NoHouse, function, star(), letters, ONES, "a", thing, *rest).thing, thing)
            for first, last, thing in [("a", "c", "a"), ("d", "c", "c"), ("b", "b", "b"), ("a", "d", "a")]:
                self.assertEqual(raised(NoEnd, function, star(), letters, ONES, first, last, *rest).thing, thing)
        for thing in any_objects():
            self.assertIs(raised(BadNumber, near_end_house, star(), letters, ONES, "d", "d", thing).thing, thing)


class ClosedAndOpened(unittest.TestCase):
    def test_passes_of_courses_are_just_those_that_closed_can_be(self):
        for village, letters in small_cases(4):
            there = rounds_by_ledger(village, letters)
            for (first, last), found in courses_by_ends(village, letters).items():
                for numbers in found:
                    ledger = closed(village, dict(zip(village.paths(), numbers)), first, last)
                    self.assertTrue(can_be(village, letters, ledger))
                    self.assertIn(tuple(ledger.values()), there)

    def test_a_course_with_the_passes_of_a_round_opened(self):
        for village, letters in small_cases(4):
            for rows in rounds_by_ledger(village, letters).values():
                for row in rows[::3]:
                    course, passes = opened(village, row, len(row) - 1)
                    self.assertIsNone(course_fault(village, letters, passes, course[0], course[-1]))
                    self.assertIn((course[0], course[-1]), course_ends(village, letters, passes))


if __name__ == "__main__":
    unittest.main()
