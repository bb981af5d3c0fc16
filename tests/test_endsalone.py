"""[101] to [103], [106]: errands of which the ends alone are known."""

import unittest
from itertools import product

from letterround.endsalone import ends_fault, longest_errands, path_range, rim_range, shortest_errands
from letterround.errors import BadEnds, NoHouse, NoPath
from letterround.runs import counts_of, is_errands
from letterround.villages import Village
from letterround.ways import beyond
from tests.helpers import HOUSES, LETTERS, VILLAGES, any_objects, bad_tables, lone, naive_ways, raised, star, two

EXAMPLE = {"a": 2, "b": 0, "c": 1, "d": 1}
SIX = Village(list("abcdef"), [("a", "b"), ("b", "c"), ("b", "d"), ("d", "e"), ("d", "f")])


def all_errands_with(village, ends):
    """The list of all errands with these ends."""
    first = next((house for house in sorted(ends) if ends[house]), None)
    if first is None:
        return [()]
    told = []
    for other in sorted(ends):
        if other > first and ends[other]:
            left = {**ends, first: ends[first] - 1, other: ends[other] - 1}
            told += [((first, other),) + rest for rest in all_errands_with(village, left)]
    return sorted(set(tuple(sorted(errands)) for errands in told))


def cases():
    """Triples: a village, ends, all errands with these."""
    for village, most in [(make(), 6 if len(make()) < 5 else 4) for make in VILLAGES] + [(SIX, 4)]:
        for numbers in product(range(4 if len(village) < 6 else 3), repeat=len(village)):
            if sum(numbers) <= most:
                ends = dict(zip(village.houses(), numbers))
                yield village, ends, all_errands_with(village, ends)


def steps_of(village, errands):
    ways = naive_ways(village)
    return [tuple(sorted(step)) for run in errands for step in zip(ways[run], ways[run][1:])]


class EndsAlone(unittest.TestCase):
    def test_faults_paths_longest_and_shortest_in_all_errands(self):
        for village, ends, there in cases():
            fault = ends_fault(village, ends)
            self.assertEqual(fault is None, bool(there))
            self.assertEqual(fault, self.naive_fault(ends))
            steps = [steps_of(village, errands) for errands in there]
            for one, other in village.paths():
                numbers = sorted({row.count((one, other)) for row in steps})
                self.assertEqual(path_range(village, ends, one, other), numbers)
                self.assertEqual(path_range(village, ends, other, one), numbers)
            if not there:
                self.assertIsNone(longest_errands(village, ends))
                self.assertIsNone(shortest_errands(village, ends))
                continue
            self.check(village, ends, longest_errands(village, ends), max(map(len, steps)))
            self.check(village, ends, shortest_errands(village, ends), min(map(len, steps)))
            longest = steps_of(village, [tuple(run) for run in longest_errands(village, ends)])
            for one, other in village.paths():
                here = sum(ends[house] for house in beyond(village, other, one))
                self.assertEqual(longest.count((one, other)), min(here, sum(ends.values()) - here))

    def test_shortest_where_not_all_paths_can_have_their_least(self):
        village = Village(list("abcdefgh"), [("a", "b"), ("a", "c"), ("c", "d"), ("c", "e"), ("a", "f"), ("f", "g"), ("f", "h")])
        for numbers in ((0, 2, 0, 1, 1, 0, 1, 1), (0, 3, 0, 1, 2, 0, 1, 1), (1, 3, 0, 1, 1, 0, 1, 1), (0, 1, 0, 2, 2, 0, 0, 1),
                        (0, 4, 0, 1, 1, 0, 1, 1), (2, 2, 1, 1, 1, 1, 0, 0), (0, 0, 0, 3, 1, 0, 2, 2), (3, 0, 0, 1, 1, 1, 1, 1)):
            ends = dict(zip(village.houses(), numbers))
            lengths = [len(steps_of(village, errands)) for errands in all_errands_with(village, ends)]
            self.check(village, ends, shortest_errands(village, ends), min(lengths))
            self.check(village, ends, longest_errands(village, ends), max(lengths))

    def test_shortest_in_longer_villages(self):
        cases = [("ab bc cd de", (3, 2, 1, 0, 4)), ("ab bc bd de ef eg", (2, 0, 2, 3, 2, 1, 0)),
                 ("ab ah bc cd de ef fg hi", (2, 0, 1, 0, 1, 0, 0, 2, 2)), ("ab bc cd de df fg gh", (0, 2, 2, 1, 2, 1, 0, 0)),
                 ("ab ac bd ce ef eg fh gi gj", (3, 1, 0, 1, 0, 1, 1, 1, 2, 0)), ("ab ad bc ce ef fg", (2, 3, 0, 2, 3, 0, 2)),
                 ("ab ad bc be cf eh fg fi gj", (2, 0, 3, 0, 1, 2, 0, 1, 1, 2))]
        for paths, numbers in cases:
            village = Village(list("abcdefghij")[:len(numbers)], [tuple(path) for path in paths.split()])
            ends = dict(zip(village.houses(), numbers))
            lengths = [len(steps_of(village, errands)) for errands in all_errands_with(village, ends)]
            self.check(village, ends, shortest_errands(village, ends), min(lengths))

    def naive_fault(self, ends):
        if sum(ends.values()) % 2:
            return ("odd",)
        much = [house for house in sorted(ends) if ends[house] > sum(ends.values()) - ends[house]]
        return ("much", much[0]) if much else None

    def check(self, village, ends, told, length):
        self.assertIs(is_errands(village, told), True)
        self.assertEqual({run.__class__ for run in told} | {tuple}, {tuple})
        by_path, by_house = counts_of(village, told)
        self.assertEqual((by_house, sum(by_path.values())), (ends, length))

    def test_what_a_branch_lets(self):
        for village, ends, _ in cases():
            for house, other in [pair for path in village.paths() for pair in (path, path[::-1])]:
                there = [ends[far] for far in beyond(village, house, other)]
                # All ways to pair some of the ends beyond, no two of one house; the rest goes by the path.
                numbers = [sum(there) - 2 * pairs for pairs in range(sum(there) // 2 + 1) if self.can_pair(there, pairs)]
                self.assertEqual(rim_range(village, ends, house, other), (min(numbers), max(numbers)))

    def can_pair(self, ends, pairs):
        return sum(min(number, pairs) for number in ends) >= 2 * pairs

    def test_examples_and_edges(self):
        self.assertEqual(path_range(star(), EXAMPLE, "a", "b"), [2])
        nobody = {house: 0 for house in HOUSES}
        self.assertIsNone(ends_fault(star(), nobody))
        self.assertEqual((longest_errands(star(), nobody), shortest_errands(star(), nobody)), ([], []))
        self.assertEqual((path_range(star(), nobody, "b", "a"), rim_range(star(), nobody, "b", "a")), ([0], (0, 0)))
        self.assertEqual(ends_fault(star(), {**nobody, "a": 1}), ("odd",))
        self.assertEqual(ends_fault(star(), {**nobody, "a": 2}), ("much", "a"))
        self.assertEqual(path_range(star(), {**nobody, "a": 2}, "a", "b"), [])
        self.assertEqual((ends_fault(lone(), {"x": 0}), longest_errands(lone(), {"x": 0})), (None, []))
        self.assertEqual((ends_fault(lone(), {"x": 2}), shortest_errands(lone(), {"x": 2})), (("much", "x"), None))
        self.assertEqual(sorted(shortest_errands(star(), {"a": 2, "b": 2, "c": 2, "d": 2})),
                         sorted(shortest_errands(star(), {"d": 2, "c": 2, "b": 2, "a": 2})))
        self.assertEqual(shortest_errands(two(), {"a": 2, "x": 2}), [("a", "x")] * 2)

    def test_wrong(self):
        for function, rest in ((ends_fault, 0), (rim_range, 2), (path_range, 2), (longest_errands, 0), (shortest_errands, 0)):
            for thing in any_objects() + bad_tables(EXAMPLE):
                self.assertIs(raised(BadEnds, function, star(), thing, *[None] * rest).thing, thing)
        for function in (rim_range, path_range):
            for ends in (LETTERS, EXAMPLE, {**EXAMPLE, "a": 9}):
                for thing in any_objects():
                    self.assertIs(raised(NoHouse, function, star(), ends, thing, None).thing, thing)
                    self.assertIs(raised(NoHouse, function, star(), ends, "a", thing).thing, thing)
                for pair in (("a", "c"), ("b", "b"), ("d", "c")):
                    found = raised(NoPath, function, star(), ends, *pair)
                    self.assertEqual((found.one, found.other), pair)


if __name__ == "__main__":
    unittest.main()
