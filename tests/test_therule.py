"""[16] to [21]: the rule for rounds, papers, rounds built, rings fitted, claims."""

import unittest
from itertools import product

from letterround.builtrounds import are_rings, built_from, built_round, fitted
from letterround.errors import BadLedger, BadLetters, BadRings, NoHouse
from letterround.rounds import signs_at
from letterround.therule import can_be, is_paper, paper_of, parting_paths, round_fault, spare
from letterround.villages import Village, beside
from tests.helpers import (HOUSES, LEDGER, LETTERS, ROUND, all_ledgers, any_objects, bad_tables, lone, naive_ledger,
                           naive_ways, raised, rounds_by_ledger, small_cases, star, turned, two)

RINGS = {"a": ["b", "a", "b", "a"], "b": ["a", "c", "a", "b", "d"], "c": ["b", "c"], "d": ["d", "b"]}


def naive_papers(village, letters, ledger):
    """All papers, by the words of the point."""
    ways = naive_ways(village)
    told = []
    for one, other in village.paths():
        near = sum(letters[house] for house in village.houses() if other not in ways[(one, house)])
        parts = 0 < near < sum(letters.values())
        if parts and ledger[(one, other)] == 0:
            told.append(("still", one, other))
        if not parts and ledger[(one, other)] > 0:
            told.append(("idle", one, other))
    for house in village.houses():
        for other in beside(village, house):
            others = sum(ledger[path] for path in village.paths() if house in path and other not in path)
            if ledger[tuple(sorted([house, other]))] > others + letters[house]:
                told.append(("much", house, other))
    return told


class Rule(unittest.TestCase):
    def test_the_documents_example(self):
        self.assertEqual(parting_paths(star(), LETTERS), [("a", "b"), ("b", "c"), ("b", "d")])
        left = spare(star(), LETTERS, LEDGER)
        self.assertEqual(left, {("a", "b"): 0, ("b", "a"): 1, ("b", "c"): 3, ("b", "d"): 3, ("c", "b"): 0,
                                ("d", "b"): 0})
        self.assertEqual(list(left), sorted(left))
        self.assertIs(can_be(star(), LETTERS, LEDGER), True)
        self.assertIsNone(paper_of(star(), LETTERS, LEDGER))
        more = {**LEDGER, ("a", "b"): 3}
        self.assertEqual(paper_of(star(), LETTERS, more), ("much", "a", "b"))
        self.assertEqual(spare(star(), LETTERS, more)[("a", "b")], -1)
        self.assertIs(can_be(star(), LETTERS, more), False)

    def test_one_house(self):
        self.assertEqual(parting_paths(lone(), {"x": 2}), [])
        self.assertEqual(spare(lone(), {"x": 2}, {}), {})
        self.assertIs(can_be(lone(), {"x": 2}, {}), True)
        self.assertEqual(built_round(lone(), {"x": 3}, {}), ["x", "x", "x"])

    def test_still_is_ahead_of_idle_ahead_of_much(self):
        letters = {"a": 0, "b": 1, "c": 1, "d": 0}
        ledger = {("a", "b"): 1, ("b", "c"): 0, ("b", "d"): 5}
        self.assertEqual(paper_of(star(), letters, ledger), ("still", "b", "c"))
        ledger[("b", "c")] = 7
        self.assertEqual(paper_of(star(), letters, ledger), ("idle", "a", "b"))
        ledger[("a", "b")] = 0
        self.assertEqual(paper_of(star(), letters, ledger), ("idle", "b", "d"))
        ledger[("b", "d")] = 0
        self.assertEqual(paper_of(star(), letters, ledger), ("much", "b", "c"))

    def test_is_paper_takes_any_of_them_and_any_object(self):
        letters = {"a": 0, "b": 1, "c": 1, "d": 0}
        ledger = {("a", "b"): 1, ("b", "c"): 0, ("b", "d"): 5}
        words = ("still", "idle", "much", "rest")
        things = [thing for thing in product(words, HOUSES, HOUSES)]
        found = [thing for thing in things if is_paper(star(), letters, ledger, thing)]
        self.assertEqual(sorted(found), [("idle", "a", "b"), ("idle", "b", "d"), ("much", "a", "b"),
                                         ("much", "b", "d"), ("much", "d", "b"), ("still", "b", "c")])
        self.assertIs(is_paper(star(), letters, ledger, ["idle", "b", "d"]), True)
        more = [("idle", "a"), ("idle", ("a", "b")), ("idle", "a", "b", "c"), "idle", ("idle", ["a"], "b"), ()]
        for thing in any_objects() + more:
            self.assertIs(is_paper(star(), letters, ledger, thing), False)

    def test_just_one_a_round_or_a_paper_in_all_small_villages(self):
        for village, letters in small_cases(4):
            there = rounds_by_ledger(village, letters)
            for ledger in all_ledgers(village, 3):
                some = tuple(ledger.values()) in there
                found = naive_papers(village, letters, ledger)
                self.assertEqual(can_be(village, letters, ledger), some)
                ranks = ["still", "idle", "much"]
                first = min(found, key=lambda paper: (ranks.index(paper[0]), paper), default=None)
                self.assertEqual(paper_of(village, letters, ledger), first)
                self.assertTrue(all([is_paper(village, letters, ledger, paper) for paper in found]))
                self.assertEqual(some, not found)

    def test_wrong(self):
        for function in (spare, can_be, paper_of, built_round):
            for thing in any_objects() + bad_tables(LETTERS):
                self.assertIs(raised(BadLetters, function, star(), thing, None).thing, thing)
            for thing in any_objects() + bad_tables(LEDGER):
                self.assertIs(raised(BadLedger, function, star(), LETTERS, thing).thing, thing)
        for function in (is_paper, round_fault, built_from):
            for thing in any_objects() + bad_tables(LETTERS):
                self.assertIs(raised(BadLetters, function, star(), thing, None, None).thing, thing)
            for thing in any_objects() + bad_tables(LEDGER):
                self.assertIs(raised(BadLedger, function, star(), LETTERS, thing, None).thing, thing)
        for thing in any_objects():
            self.assertIs(raised(BadLetters, parting_paths, star(), thing).thing, thing)
            self.assertIs(raised(NoHouse, built_from, star(), LETTERS, LEDGER, thing).thing, thing)
            none = {path: 0 for path in LEDGER}
            self.assertIs(raised(NoHouse, built_from, star(), LETTERS, none, thing).thing, thing)


class Built(unittest.TestCase):
    def test_built_of_all_ledgers_of_small_villages(self):
        for village, letters in small_cases(4):
            there = rounds_by_ledger(village, letters)
            for ledger in all_ledgers(village, 3):
                rows = there.get(tuple(ledger.values()), [None])
                self.assertIn(built_round(village, letters, ledger), rows)
                for first in village.houses():
                    row = built_from(village, letters, ledger, first)
                    if letters[first] == 0 or rows == [None]:
                        self.assertIsNone(row)
                    else:
                        self.assertEqual(row[0], first)
                        self.assertIn(row, rows)

    def test_numbers_of_nine_figures(self):
        many = {path: 999999999 for path in LEDGER}
        self.assertIsNone(built_round(star(), LETTERS, many))
        self.assertEqual(paper_of(star(), LETTERS, many), ("much", "a", "b"))
        self.assertIs(can_be(star(), LETTERS, {path: 10 ** 30 for path in LEDGER}), False)


class Rings(unittest.TestCase):
    def test_the_documents_example(self):
        self.assertIs(are_rings(star(), RINGS), True)
        self.check_fitted(star(), RINGS)

    def check_fitted(self, village, rings):
        row = fitted(village, rings)
        self.assertEqual(row.__class__, list)
        for house in village.houses():
            self.assertIn(list(rings[house]), turned(signs_at(village, row, house)))

    def test_rings_of_all_rounds_turned(self):
        for village, letters in small_cases(4):
            for rows in rounds_by_ledger(village, letters).values():
                for row in rows[::3]:
                    rings = {house: signs_at(village, row, house) for house in village.houses()}
                    self.assertIs(are_rings(village, rings), True)
                    self.check_fitted(village, rings)
                    rings = {house: turned(rings[house])[-1] for house in rings}
                    self.assertIs(are_rings(village, rings), True)
                    self.check_fitted(village, rings)

    def test_all_rings_of_a_small_village(self):
        village = Village(["a", "b", "c"], [("a", "b"), ("b", "c")])
        signs = {"a": ["a", "b"], "b": ["a", "b", "c"], "c": ["b", "c"]}
        lists = {house: [row for size in (1, 2, 3, 4) for row in product(signs[house], repeat=size)]
                 for house in signs}
        told = set()
        for letters in range(1, 7):
            for row in product("abc", repeat=letters):
                seen = [turned(signs_at(village, list(row), house)) for house in "abc"]
                told.update(product(*[[tuple(turn) for turn in turns] for turns in seen]))
        right = 0
        for rings in product(lists["a"], lists["b"], lists["c"]):
            found = are_rings(village, dict(zip("abc", rings)))
            right += found
            # What some round is seen as is rings; and of all that are rings one is seen as these.
            self.assertTrue(found or rings not in told)
            if found:
                self.check_fitted(village, dict(zip("abc", rings)))
        self.assertGreater(right, 100)

    def test_idle_lists(self):
        idle = {"a": ["b"], "b": ["d"], "c": ["b"], "d": ["d", "d"]}
        self.assertIs(are_rings(star(), idle), True)
        self.assertEqual(fitted(star(), idle), ["d", "d"])
        for wrong in ({"b": ["d", "a"]}, {"d": ["b"]}, {"d": ["d", "b", "d"]}, {"c": ["b", "c"]}, {"a": ["b", "b"]}):
            self.assertIs(are_rings(star(), {**idle, **wrong}), False)
        self.assertIs(are_rings(two(), {"a": ["x"], "x": ["a"]}), False)
        self.assertIs(are_rings(lone(), {"x": ["x"]}), True)
        self.assertIs(are_rings(lone(), {"x": []}), False)
        self.assertEqual(fitted(lone(), {"x": ("x", "x")}), ["x", "x"])

    def test_wrong_rings(self):
        bad = [{**RINGS, "b": ["a", "c", "a", "b", "d", "a"]}, {**RINGS, "c": ["b"]}, {**RINGS, "c": ["c"]},
               {**RINGS, "c": ["c", "b", "c", "b"]}, {**RINGS, "a": ["b", "a"]}, {**RINGS, "a": []},
               {**RINGS, "a": ["b", "a", "b", "c"]}, {**RINGS, "a": "baba"}, {**RINGS, "d": ["d", "b", "b"]},
               {**RINGS, "e": ["b"]}, {"a": ["b", "a", "b", "a"]}, {**RINGS, "b": ["a", "a", "c", "b", "d"]},
               list(RINGS.items()), {}]
        for thing in any_objects():
            bad += [thing, {**RINGS, "a": thing}, {**RINGS, "a": ["b", "a", "b", thing]}]
        for thing in bad:
            self.assertIs(are_rings(star(), thing), False)
            self.assertIs(raised(BadRings, fitted, star(), thing).thing, thing)


class Claims(unittest.TestCase):
    def test_faults(self):
        self.assertIsNone(round_fault(star(), LETTERS, LEDGER, ROUND))
        self.assertIsNone(round_fault(star(), LETTERS, LEDGER, tuple(ROUND)))
        claims = [([], ("round", 0)), ("acbad", ("round", 0)), (["a", "zz", 1], ("round", 1)),
                  (["b", "a", "b", "d"], ("letters", "a")), (["a", "a", "b", "b"], ("letters", "b")),
                  (["a", "a", "b", "d", "d"], ("letters", "c")), (["a", "a", "b", "c"], ("letters", "d")),
                  (["a", "a", "b", "c", "d"], ("path", "a", "b"))]
        for thing, fault in claims:
            self.assertEqual(round_fault(star(), LETTERS, LEDGER, thing), fault)
        more = {**LEDGER, ("b", "c"): 2, ("b", "d"): 0}
        self.assertEqual(round_fault(star(), LETTERS, more, ROUND), ("path", "b", "c"))
        for thing in any_objects():
            self.assertEqual(round_fault(star(), LETTERS, LEDGER, thing)[0], "round")

    def test_all_rounds_of_small_villages(self):
        for village, letters in small_cases(3):
            for ledger in all_ledgers(village, 2):
                for numbers, rows in rounds_by_ledger(village, letters).items():
                    apart = [path for path in village.paths() if dict(zip(village.paths(), numbers))[path] != ledger[path]]
                    fault = ("path", *apart[0]) if apart else None
                    self.assertEqual(round_fault(village, letters, ledger, rows[-1]), fault)
                    self.assertEqual(naive_ledger(village, rows[-1]), numbers)


if __name__ == "__main__":
    unittest.main()
