"""[97] to [100], [106]: signs joined, runs from one house to another, sure and possible ones, runs by two paths."""

import unittest
from itertools import combinations, product

from letterround.errands import errands_fault
from letterround.errors import BadCounts, BadNumber, BadPath, NoErrands, NoHouse, NoSign, SameHouse, SameSign
from letterround.joined import (by_both, errands_between, joined_range, possible_runs, runs_range, sure_runs)
from letterround.runs import counts_of, is_errands
from letterround.villages import Village
from tests.helpers import (HOUSES, LEDGER, LETTERS, VILLAGES, any_objects, bad_tables, lone, naive_ways, raised, star,
                           two)

COUNTS = (LEDGER, {"a": 2, "b": 0, "c": 1, "d": 1})
NONE = ({path: 0 for path in LEDGER}, {house: 0 for house in HOUSES})


def signs_there(village, house):
    return [house] + [other for path in village.paths() if house in path for other in path if other != house]


def grouped(make, most):
    """The dict from keys of counts to all errands with them, of so many runs at most."""
    village = make()
    runs = [(one, other) for one in village.houses() for other in village.houses() if one < other]
    ways = naive_ways(village)

    def rows(left, least):
        yield ()
        if left:
            for place in range(least, len(runs)):
                for row in rows(left - 1, place):
                    yield (runs[place],) + row

    told = {}
    for errands in rows(most, 0):
        steps = [tuple(sorted(step)) for run in errands for step in zip(ways[run], ways[run][1:])]
        ends = [house for run in errands for house in run]
        key = (tuple(steps.count(path) for path in village.paths()), tuple(map(ends.count, village.houses())))
        told.setdefault(key, []).append(errands)
    return told


def joins_of(way, house):
    """The two signs of a house that a run which goes a way joins there, None if it does not come to it."""
    if house not in way:
        return None
    place = way.index(house)
    return {way[place - 1] if place else house, way[place + 1] if place + 1 < len(way) else house}


def span(numbers):
    return min(numbers), max(numbers)


def cases():
    """Quadruples: a village, its ways, counts of some errands, all errands with these."""
    six = Village(list("abcdef"), [("a", "b"), ("b", "c"), ("b", "d"), ("d", "e"), ("d", "f")])
    for make, most in [(make, 4 if len(make()) < 5 else 3) for make in VILLAGES] + [(lambda: six, 3), (two, 6), (star, 5)]:
        village = make()
        for by_path, by_house in (there := grouped(make, most)):
            counts = (dict(zip(village.paths(), by_path)), dict(zip(village.houses(), by_house)))
            yield village, naive_ways(village), counts, there[(by_path, by_house)]


class Joined(unittest.TestCase):
    def test_signs_joined_in_all_errands(self):
        for village, ways, counts, there in cases():
            for house in village.houses():
                for one, other in combinations(signs_there(village, house), 2):
                    times = [sum(joins_of(ways[run], house) == {one, other} for run in errands) for errands in there]
                    told = joined_range(village, counts, house, one, other)
                    self.assertEqual(told, span(times))
                    self.assertEqual(set(times), set(range(told[0], told[1] + 1)))

    def test_runs_between_in_all_errands(self):
        for village, ways, counts, there in cases():
            sure, possible = [], []
            for one, other in combinations(village.houses(), 2):
                times = [errands.count((one, other)) for errands in there]
                told = runs_range(village, counts, one, other)
                self.assertEqual(told, span(times))
                self.assertEqual(runs_range(village, counts, other, one), told)
                sure += [(one, other)] * (told[0] > 0)
                possible += [(one, other)] * (told[1] > 0)
                for number in range(told[1] + 2):
                    self.check_between(village, counts, [one, other][::(-1) ** number], number, number in times)
            self.assertEqual((sure_runs(village, counts), possible_runs(village, counts)), (sure, possible))

    def check_between(self, village, counts, pair, number, there):
        told = errands_between(village, counts, *pair, number)
        if not there:
            self.assertIsNone(told)
            return
        self.assertIs(is_errands(village, told), True)
        self.assertEqual(counts_of(village, told), counts)
        self.assertEqual(sum(sorted(run) == sorted(pair) for run in told), number)

    def test_runs_by_both_of_two_paths(self):
        for village, ways, counts, there in cases():
            steps = {run: {tuple(sorted(step)) for step in zip(ways[run], ways[run][1:])} for run in ways}
            for one, other in combinations(village.paths(), 2):
                times = [sum({one, other} <= steps[run] for run in errands) for errands in there]
                self.assertEqual(by_both(village, counts, one, other), span(times))
                self.assertEqual(by_both(village, counts, other[::-1], one), span(times))

    def test_examples_and_edges(self):
        self.assertEqual(joined_range(star(), COUNTS, "b", "a", "c"), (1, 1))
        self.assertEqual(runs_range(star(), COUNTS, "c", "a"), (1, 1))
        self.assertEqual(sure_runs(star(), COUNTS), [("a", "c"), ("a", "d")])
        self.assertEqual(joined_range(star(), COUNTS, "b", "b", "a"), (0, 0))
        self.assertEqual(joined_range(star(), NONE, "b", "a", "c"), (0, 0))
        self.assertEqual((sure_runs(lone(), ({}, {"x": 0})), possible_runs(lone(), ({}, {"x": 0}))), ([], []))
        self.assertEqual(errands_between(star(), NONE, "a", "b", 0), [])
        self.assertIsNone(errands_between(star(), NONE, "a", "b", 1))
        self.assertEqual(by_both(star(), COUNTS, ("a", "b"), ("b", "c")), joined_range(star(), COUNTS, "b", "a", "c"))
        chain = Village(list("abcd"), [("a", "b"), ("b", "c"), ("c", "d")])
        counts = (dict.fromkeys(chain.paths(), 2), {"a": 2, "b": 0, "c": 0, "d": 2})
        self.assertEqual(by_both(chain, counts, ("d", "c"), ("a", "b")), (2, 2))
        counts = (dict.fromkeys(chain.paths(), 2), {"a": 2, "b": 2, "c": 2, "d": 2})
        self.assertEqual(by_both(chain, counts, ("d", "c"), ("a", "b")), (0, 1))
        self.assertEqual(sure_runs(chain, counts), [("a", "b"), ("c", "d")])
        self.assertEqual(possible_runs(chain, counts), list(combinations("abcd", 2)))

    def test_all_errands_that_can_be_of_greater_counts(self):
        village = Village(list("abcdef"), [("a", "b"), ("b", "c"), ("c", "d"), ("b", "e"), ("c", "f")])
        for numbers in product((3, 4, 6), (3, 5), (2, 5), (1, 3), (0, 4)):
            by_path = dict(zip(village.paths(), numbers))
            for more in (0, 2):
                by_house = {"a": numbers[0], "b": 0, "c": more, "d": by_path[("c", "d")], "e": by_path[("b", "e")],
                            "f": by_path[("c", "f")]}
                by_house["b"] = sum(by_path[path] for path in by_path if "b" in path) % 2 + more
                by_house["c"] += sum(by_path[path] for path in by_path if "c" in path) % 2
                if errands_fault(village, (by_path, by_house)) is None:
                    for one, other in combinations(village.houses(), 2):
                        least, most = runs_range(village, (by_path, by_house), one, other)
                        for number in range(most + 2):
                            self.check_between(village, (by_path, by_house), (one, other), number, least <= number <= most)

    def test_wrong(self):
        for function, rest in ((joined_range, 3), (runs_range, 2), (errands_between, 3), (sure_runs, 0),
                               (possible_runs, 0), (by_both, 2)):
            bad = any_objects() + [LEDGER, (LEDGER,), (LEDGER, LETTERS, 1), (LETTERS, LEDGER)]
            bad += [(gone, LETTERS) for gone in bad_tables(LEDGER)] + [(LEDGER, ends) for ends in bad_tables(LETTERS)]
            for thing in bad:
                self.assertIs(raised(BadCounts, function, star(), thing, *[None] * rest).thing, thing)
            for ends in ({**COUNTS[1], "b": 1}, {**COUNTS[1], "a": 4}, {**COUNTS[1], "c": 3}):
                paper = errands_fault(star(), (LEDGER, ends))
                self.assertEqual(raised(NoErrands, function, star(), (LEDGER, ends), *[None] * rest).paper, paper)

    def test_wrong_houses_signs_paths_and_numbers(self):
        for thing in any_objects():
            self.assertIs(raised(NoHouse, joined_range, star(), COUNTS, thing, None, None).thing, thing)
            self.assertIs(raised(NoSign, joined_range, star(), COUNTS, "b", thing, None).thing, thing)
            self.assertIs(raised(NoSign, joined_range, star(), COUNTS, "b", "a", thing).thing, thing)
            for function, rest in ((runs_range, []), (errands_between, [None])):
                self.assertIs(raised(NoHouse, function, star(), COUNTS, thing, None, *rest).thing, thing)
                self.assertIs(raised(NoHouse, function, star(), COUNTS, "a", thing, *rest).thing, thing)
            self.assertIs(raised(BadNumber, errands_between, star(), COUNTS, "a", "b", thing).thing, thing)
        self.assertEqual(raised(NoSign, joined_range, star(), COUNTS, "a", "c", None).thing, "c")
        self.assertEqual(raised(NoSign, joined_range, star(), COUNTS, "a", "a", "c").thing, "c")
        self.assertEqual(raised(SameSign, joined_range, star(), COUNTS, "b", "b", "b").thing, "b")
        self.assertEqual(raised(SameSign, joined_range, star(), COUNTS, "b", "a", "a").thing, "a")
        self.assertEqual(raised(SameHouse, runs_range, star(), COUNTS, "c", "c").thing, "c")
        self.assertEqual(raised(SameHouse, errands_between, star(), COUNTS, "c", "c", None).thing, "c")
        paths = [thing for thing in any_objects() if thing != [("a", "b")]] + [("a", "c"), ("a",), ("a", "b", "c"), ("a", "a")]
        for thing in paths + [[("a", "b")], {0: "a", 1: "b"}, ("b", "zz"), ("b", ["a"])]:
            self.assertIs(raised(BadPath, by_both, star(), COUNTS, thing, None).thing, thing)
            self.assertIs(raised(BadPath, by_both, star(), COUNTS, ["b", "a"], thing).thing, thing)
        for thing in (("a", "b"), ["b", "a"]):
            self.assertIs(raised(BadPath, by_both, star(), COUNTS, ("a", "b"), thing).thing, thing)
            self.assertIs(raised(BadPath, by_both, star(), COUNTS, ("b", "a"), thing).thing, thing)


if __name__ == "__main__":
    unittest.main()
