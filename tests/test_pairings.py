"""[107] to [110], [114]: pairings of a house and weaves, counted, in order, with the runs that go by them."""

import unittest
from itertools import combinations_with_replacement, permutations, product

from letterround.errands import errands_fault
from letterround.errors import BadCounts, BadMembers, BadNumber, BadPairing, BadWeave, NoHouse
from letterround.pairings import (all_pairings, count_apart, count_pairings, is_pairing, pairing_at, pairing_number)
from letterround.runs import counts_of
from letterround.villages import Village, beside
from letterround.weaves import all_errands, count_weaves, is_weave, runs_by, weave_at, weave_number
from tests.helpers import (HOUSES, LEDGER, LETTERS, VILLAGES, all_ledgers, any_objects, bad_tables, chain, lone,
                           naive_ways, raised, star, tree, two)
from tests.test_joined import grouped

COUNTS = ({path: 2 for path in LEDGER}, {"a": 2, "b": 0, "c": 2, "d": 2})
NONE = ({path: 0 for path in LEDGER}, {house: 0 for house in HOUSES})


def naive_pairings(members):
    """All pairings of a list of members, ascending."""
    if not members:
        return [[]]
    told = []
    for other in members[1:]:
        if other[0] != members[0][0]:
            left = [member for member in members if member not in (members[0], other)]
            told += [[(members[0], other)] + rest for rest in naive_pairings(left)]
    return told


def members_there(village, counts, house):
    numbers = {other: counts[0][tuple(sorted((house, other)))] for other in beside(village, house)}
    numbers[house] = counts[1][house]
    return [(sign, index) for sign in sorted(numbers) for index in range(numbers[sign])]


def naive_weaves(village, counts):
    """All weaves in order, each a dict."""
    rows = [naive_pairings(members_there(village, counts, house)) for house in village.houses()]
    return [dict(zip(village.houses(), row)) for row in product(*rows)]


def naive_runs(weave):
    """The runs of a weave, gone from each end, step by step."""
    told = []
    for house in weave:
        for pair in weave[house]:
            for start, further in (pair, pair[::-1]):
                if start[0] == house:
                    here = house
                    while further[0] != here:
                        back, here = here, further[0]
                        coming = (back, further[1])
                        found = next(couple for couple in weave[here] if coming in couple)
                        further = found[1 - found.index(coming)]
                    told.append((house, here))
    return sorted(run for run in told if run[0] < run[1])


def small_counts():
    """Pairs of a village and counts, some of them no errands'."""
    for make in VILLAGES:
        village = make()
        for gone in all_ledgers(village, 2):
            ends = [{house: place % 3 for place, house in enumerate(village.houses())}]
            signs = {house: sum(gone[path] for path in gone if house in path) for house in village.houses()}
            ends += [signs, {house: signs[house] % 2 for house in signs}]
            for by_house in ends:
                yield village, (gone, by_house)


class Pairings(unittest.TestCase):
    def test_all_pairings_of_small_villages(self):
        for village, counts in small_counts():
            for house in village.houses():
                there = naive_pairings(members_there(village, counts, house))
                if len(there) > 200:
                    continue
                given = (village, counts, house)
                self.assertEqual(all_pairings(*given), there)
                self.assertEqual(count_pairings(*given), len(there))
                for number, pairing in enumerate(there):
                    self.assertEqual(pairing_at(*given, number), pairing)
                    self.assertEqual(pairing_number(*given, pairing), number)
                    self.assertIs(is_pairing(*given, pairing), True)
                    turned = tuple([list(member) for member in pair[::-1]] for pair in pairing[::-1])
                    self.assertIs(is_pairing(*given, turned), True)
                    self.assertEqual(pairing_number(*given, turned), number)
                self.assertEqual(raised(BadNumber, pairing_at, *given, len(there)).thing, len(there))

    def test_count_apart_of_all_small_members(self):
        for size in range(5):
            for numbers in product(range(4), repeat=size):
                if sum(numbers) <= 8:
                    members = [(sign, index) for sign in range(size) for index in range(numbers[sign])]
                    self.assertEqual(count_apart(list(numbers)), len(naive_pairings(members)))
        for numbers in combinations_with_replacement(range(5), 4):
            self.assertEqual(count_apart(numbers) == 0, sum(numbers) % 2 == 1 or 2 * max(numbers) > sum(numbers))
            self.assertEqual({count_apart(list(row)) for row in permutations(numbers)}, {count_apart(numbers)})

    def test_numbers_there_and_back_beyond_what_can_be_gone_through(self):
        village = Village(list("abcde"), [("a", other) for other in "bcde"])
        counts = (dict(zip(village.paths(), (5, 3, 4, 6))), {"a": 2, "b": 5, "c": 3, "d": 4, "e": 6})
        many = count_pairings(village, counts, "a")
        told = [pairing_at(village, counts, "a", number) for number in range(0, many, many // 50)]
        self.assertEqual(told, sorted(told))
        for place, pairing in enumerate(told):
            self.assertEqual(pairing_number(village, counts, "a", pairing), place * (many // 50))
        self.assertEqual(pairing_number(village, counts, "a", pairing_at(village, counts, "a", many - 1)), many - 1)

    def test_examples_and_edges(self):
        self.assertEqual((count_pairings(star(), COUNTS, "b"), count_pairings(star(), COUNTS, "a")), (8, 2))
        self.assertEqual((count_apart([]), count_apart([0, 0]), count_apart([1]), count_apart([3, 1]), count_apart([2, 2])),
                         (1, 1, 0, 0, 2))
        self.assertEqual((count_apart((1, 1, 1)), count_apart([1, 1, 1, 1])), (0, 3))
        self.assertEqual((count_apart([6, 6]), count_apart([7, 2, 5]), count_apart([8, 8])), (720, 5040, 40320))
        self.assertEqual((count_apart([999999999, 1]), count_apart([999999999])), (0, 0))
        self.assertEqual((all_pairings(star(), NONE, "b"), pairing_at(star(), NONE, "b", 0)), ([[]], []))
        self.assertEqual((all_pairings(lone(), ({}, {"x": 2}), "x"), count_pairings(lone(), ({}, {"x": 0}), "x")), ([], 1))
        self.assertEqual(all_pairings(two(), ({("a", "x"): 1}, {"a": 1, "x": 0}), "a"), [[(("a", 0), ("x", 0))]])
        self.assertEqual(all_pairings(two(), ({("a", "x"): 1}, {"a": 1, "x": 0}), "x"), [])

    def test_is_pairing_of_any_objects(self):
        good = [(("a", 0), ("b", 0)), (("a", 1), ("b", 1))]
        self.assertIs(is_pairing(star(), COUNTS, "a", good), True)
        bad = [good[:1], good + good[:1], good[:1] * 2, [(("a", 0), ("a", 1)), (("b", 0), ("b", 1))], [good[0], ("a", "b")],
               [good[0], (("a", 1), ("b", 0))], [good[0], (("a", 1), ("b", 2))], [good[0], (("a", True), ("b", 1))],
               [good[0], (("a", 1), ("c", 0))], [good[0], (("a", 1), ("b", -1))], [good[0], (("a", 1), ("b", 1), ("b", 0))],
               [good[0], (("a", 1), ("b", 1, 1))], [good[0], (("a", 1), ({}, 1))], [good[0], (("a", 1), ("b", "1"))],
               {0: good[0], 1: good[1]}, [good[0], None], [good[0], {0: ("a", 1), 1: ("b", 1)}]]
        for thing in any_objects() + bad:
            self.assertIs(is_pairing(star(), COUNTS, "a", thing), False)
            self.assertIs(raised(BadPairing, pairing_number, star(), COUNTS, "a", thing).thing, thing)
        self.assertIs(is_pairing(star(), NONE, "a", []), True)

    def test_wrong(self):
        for function, rest in ((all_pairings, []), (is_pairing, [None]), (count_pairings, []), (pairing_at, [None]),
                               (pairing_number, [None])):
            check_counts(self, function, [None, *rest])
            for thing in any_objects():
                self.assertIs(raised(NoHouse, function, star(), COUNTS, thing, *rest).thing, thing)
        for thing in any_objects() + [2]:
            self.assertIs(raised(BadNumber, pairing_at, star(), COUNTS, "a", thing).thing, thing)
        for thing in any_objects():
            if thing.__class__ in (list, tuple):
                continue
            self.assertEqual(raised(BadMembers, count_apart, thing).index, 0)
        for thing in any_objects():
            self.assertEqual(raised(BadMembers, count_apart, [2, 1, thing, thing]).index, 2)


def check_counts(test, function, rest):
    """Checks that BadCounts comes ahead of all else."""
    bad = any_objects() + [LEDGER, (LEDGER,), (LEDGER, LETTERS, 1), (LETTERS, LEDGER)]
    bad += [(gone, LETTERS) for gone in bad_tables(LEDGER)] + [(LEDGER, ends) for ends in bad_tables(LETTERS)]
    for thing in bad:
        test.assertIs(raised(BadCounts, function, star(), thing, *rest).thing, thing)


class Weaves(unittest.TestCase):
    def test_all_weaves_of_small_villages(self):
        for village, counts in small_counts():
            many = count_weaves(village, counts)
            if many > 60:
                continue
            there = naive_weaves(village, counts)
            self.assertEqual(many, len(there))
            self.assertEqual(many == 0, errands_fault(village, counts) is not None)
            found = set()
            for number, weave in enumerate(there):
                told = weave_at(village, counts, number)
                self.assertEqual((told, list(told)), (weave, village.houses()))
                turned = {house: tuple(pair[::-1] for pair in weave[house][::-1]) for house in reversed(list(weave))}
                for passed in (weave, turned):
                    self.assertEqual(weave_number(village, counts, passed), number)
                    self.assertIs(is_weave(village, counts, passed), True)
                    self.assertEqual(runs_by(village, counts, passed), naive_runs(weave))
                self.assertEqual(counts_of(village, naive_runs(weave)), counts)
                found.add(tuple(naive_runs(weave)))
            self.assertEqual(all_errands(village, counts), [list(errands) for errands in sorted(found)])
            self.assertEqual(raised(BadNumber, weave_at, village, counts, many).thing, many)

    def test_all_errands_come_by_weaves(self):
        for make, most in ((star, 3), (chain, 3), (tree, 2), (two, 4)):
            village = make()
            there = grouped(make, most)
            for by_path, by_house in there:
                counts = (dict(zip(village.paths(), by_path)), dict(zip(village.houses(), by_house)))
                if count_weaves(village, counts) <= 3000:
                    told = sorted(sorted(errands) for errands in there[(by_path, by_house)])
                    self.assertEqual(all_errands(village, counts), told)

    def test_examples_and_edges(self):
        self.assertEqual(count_weaves(star(), COUNTS), 64)
        self.assertEqual(all_errands(star(), COUNTS), [[("a", "c"), ("a", "d"), ("c", "d")]])
        self.assertEqual((count_weaves(lone(), ({}, {"x": 0})), weave_at(lone(), ({}, {"x": 0}), 0)), (1, {"x": []}))
        self.assertEqual((count_weaves(lone(), ({}, {"x": 2})), all_errands(lone(), ({}, {"x": 2}))), (0, []))
        self.assertEqual((all_errands(star(), NONE), runs_by(star(), NONE, {house: [] for house in HOUSES})), ([[]], []))
        # What comes first by the numbers of weaves need not be first here.
        village = Village(list("abcde"), [("a", "b"), ("a", "c"), ("a", "d"), ("c", "e")])
        self.assertEqual(all_errands(village, counts_of(village, [("a", "d"), ("b", "e")])),
                         [[("a", "b"), ("d", "e")], [("a", "d"), ("b", "e")], [("a", "e"), ("b", "d")]])
        fault = (COUNTS[0], {**COUNTS[1], "a": 999999999})
        self.assertEqual((count_weaves(star(), fault), all_errands(star(), fault)), (0, []))

    def test_wrong(self):
        for function, rest in ((is_weave, [None]), (runs_by, [None]), (count_weaves, []), (weave_at, [None]),
                               (weave_number, [None]), (all_errands, [])):
            check_counts(self, function, rest)
        good = weave_at(star(), COUNTS, 9)
        bad = any_objects() + [{house: good[house] for house in "abc"}, {**good, "zz": []}, {**good, "a": None}, list(good.items())]
        bad += [{**good, "a": good["a"][:1]}, {**good, "b": good["b"][1:] + good["b"][1:]}, {**good, "a": good["c"]}]
        for thing in bad:
            self.assertIs(is_weave(star(), COUNTS, thing), False)
            self.assertIs(raised(BadWeave, runs_by, star(), COUNTS, thing).thing, thing)
            self.assertIs(raised(BadWeave, weave_number, star(), COUNTS, thing).thing, thing)
        for thing in any_objects() + [64]:
            self.assertIs(raised(BadNumber, weave_at, star(), COUNTS, thing).thing, thing)

    def test_runs_are_those_of_the_ways(self):
        weave = weave_at(chain(), counts_of(chain(), [("b", "d"), ("c", "d"), ("a", "b")]), 0)
        runs = runs_by(chain(), counts_of(chain(), [("b", "d"), ("c", "d"), ("a", "b")]), weave)
        self.assertTrue(all(len(naive_ways(chain())[run]) > 1 for run in runs))
        self.assertEqual(sorted(house for run in runs for house in run), ["a", "b", "b", "c", "d", "d"])


if __name__ == "__main__":
    unittest.main()
