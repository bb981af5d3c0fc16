"""[75], [76]: corridors and their spreads, rows of branches, rounds over two branches."""

import unittest
from itertools import product
from math import factorial

from letterround.alikebranches import parting_number
from letterround.barerows import bare_row, rounds_over
from letterround.branches import Branch, bare_pair
from letterround.corridors import Corridor, bare_spread, corridor_lets, spread_behind
from letterround.counting import count_orders, count_rounds
from letterround.errors import BadBoxes, BadLetters, BadNumber, BadSpread, CommonHouse, NoHouse
from letterround.othervillages import joined_by, renamed
from letterround.villages import Village
from letterround.ways import beyond
from tests.helpers import (HOUSES, LEDGER, LETTERS, VILLAGES, all_ledgers, any_objects, bad_tables, chain, lone,
                           naive_ledger, naive_ways, raised, rows_of, star, two)
from tests.test_branches import BAD_SPANS, some_boxes, some_branches, some_letters


def way_paths(village, first, last):
    way = naive_ways(village)[(first, last)]
    return [tuple(sorted(step)) for step in zip(way, way[1:])]


def some_corridors():
    for make in VILLAGES[:4]:
        village = make()
        for first in village.houses():
            for last in village.houses():
                between = way_paths(village, first, last)
                for kind in range(10):
                    boxes = some_boxes(village, kind)
                    letters = some_letters(village, kind + len(between))
                    if sum(letters.values()) > 4:
                        letters[max(letters, key=letters.get)] -= 1
                    yield Corridor(village, first, last, letters,
                                   {path: boxes[path] for path in boxes if path not in between})
    for many in (3, 4):
        for near in (0, 1):
            letters = {"a": 0, "b": 0, "c": near, "d": many}
            yield Corridor(chain(), "a", "c", letters, {("a", "d"): (many, many)})
            yield Corridor(chain(), "c", "c", {"a": 0, "b": many, "c": near, "d": 0}, {("b", "c"): (many, None)})


def lets(corridor, number, other, ledgers):
    """What [75] says of inner ledgers with the bare paths gone so often."""
    village, letters = corridor.village(), corridor.letters()
    between = way_paths(village, corridor.first(), corridor.last())
    on_way = naive_ways(village)[(corridor.first(), corridor.last())]
    for ledger in ledgers:
        good = True
        for (one, far), (least, most) in corridor.boxes().items():
            gone = ledger[(one, far)]
            there = beyond(village, one, far)
            if on_way[0] in there:
                there = beyond(village, far, one)
            gets = (one, far) in between or any(letters[house] for house in there)
            good = good and gone >= least and (most is None or gone <= most) and gets == (gone > 0)
        for house in village.houses():
            gone = [ledger[path] for path in ledger if house in path]
            gone += [number] * (house == corridor.first()) + [other] * (house == corridor.last())
            good = good and 2 * max(gone, default=0) <= sum(gone) + letters[house]
        if good:
            return True
    return False


class Corridors(unittest.TestCase):
    def test_what_was_passed(self):
        letters, boxes = dict(LETTERS), {("b", "c"): [0, 2]}
        corridor = Corridor(star(), "a", "d", letters, boxes)
        letters["a"] = 9
        boxes[("b", "c")].append(1)
        for _ in range(2):
            self.assertEqual((corridor.village(), corridor.first(), corridor.last()), (star(), "a", "d"))
            self.assertEqual((corridor.letters(), list(corridor.letters())), (LETTERS, HOUSES))
            self.assertEqual(corridor.boxes(), {("a", "b"): (0, None), ("b", "c"): (0, 2), ("b", "d"): (0, None)})
            self.assertEqual(list(corridor.boxes()), list(LEDGER))
            corridor.letters().clear()
            corridor.boxes().clear()

    def test_equal(self):
        given = [(star(), "a", "d", LETTERS, {}), (star(), "d", "a", LETTERS, {}), (star(), "a", "a", LETTERS, {}),
                 (star(), "a", "d", {**LETTERS, "c": 0}, {}), (star(), "a", "d", LETTERS, {("b", "c"): (0, 1)}),
                 (chain(), "a", "d", LETTERS, {})]
        told = [Corridor(*parts) for parts in given]
        for place, one in enumerate(told):
            for index, other in enumerate(told):
                self.assertIs(one == other, place == index)
        self.assertEqual(told[0], Corridor(star(), "a", "d", dict(LETTERS), {("b", "c"): [0, None]}))
        for thing in any_objects() + [Branch(star(), "a", LETTERS, {})]:
            self.assertIs(told[2] == thing, False)

    def test_all_small_corridors(self):
        seen = set()
        for corridor in some_corridors():
            total = sum(corridor.letters().values())
            ledgers = list(all_ledgers(corridor.village(), total + 3 if len(corridor.village()) < 3 else 4))
            spread = bare_spread(corridor)
            seen.add(spread)
            for number, other in product(range(1, 4), repeat=2):
                told = corridor_lets(corridor, number, other)
                self.assertIs(told, lets(corridor, number, other, ledgers))
                good = spread is not None and number + other >= spread[0] and abs(number - other) <= spread[1]
                self.assertIs(told, good)
            if spread is not None:
                self.assertTrue(spread[0] == 2 or 2 < spread[0] <= spread[1])
                self.assertIs(corridor_lets(corridor, 10 ** 9, 10 ** 9 + spread[1]), True)
                self.assertIs(corridor_lets(corridor, 10 ** 9, 10 ** 9 + spread[1] + 1), False)
        self.assertGreater(len(seen), 6)
        self.assertIn(None, seen)

    def test_examples_and_edges(self):
        self.assertEqual(bare_spread(Corridor(lone(), "x", "x", {"x": 1}, {})), (2, 1))
        self.assertEqual(bare_spread(Corridor(lone(), "x", "x", {"x": 0}, {})), (2, 0))
        nobody = {house: 0 for house in HOUSES}
        self.assertEqual(bare_spread(Corridor(star(), "a", "c", nobody, {})), (2, 0))
        self.assertIsNone(bare_spread(Corridor(star(), "a", "c", nobody, {("b", "d"): (1, 1)})))
        self.assertIsNone(bare_spread(Corridor(star(), "a", "c", LETTERS, {("b", "d"): (0, 0)})))
        village = Village(["m", "f"], [("m", "f")])
        self.assertEqual(bare_spread(Corridor(village, "m", "m", {"m": 1, "f": 9}, {("f", "m"): (9, 9)})), (8, 10))

    def test_one_behind_the_other(self):
        corridors = [one for one in some_corridors() if bare_spread(one) is not None]
        kinds = {}
        for corridor in corridors:
            if len(corridor.village()) > 1 or corridor.letters() != {"x": 0}:
                kinds.setdefault(bare_spread(corridor), corridor)
        for one in kinds.values():
            for other in kinds.values():
                names = {house: "z" + house for house in other.village().houses()}
                other_village = renamed(other.village(), names)
                village = joined_by(one.village(), other_village, one.last(), names[other.first()])
                letters = {**one.letters(), **{names[house]: many for house, many in other.letters().items()}}
                boxes = {**one.boxes(), **{(names[a], names[b]): box for (a, b), box in other.boxes().items()}}
                both = Corridor(village, one.first(), names[other.last()], letters, boxes)
                self.assertEqual(spread_behind(bare_spread(one), bare_spread(other)), bare_spread(both))
        self.assertEqual(spread_behind([8, 10], (2, 1)), (7, 11))
        self.assertEqual(spread_behind((2, 1), (9, 9)), (8, 10))
        self.assertEqual(spread_behind((2, 0), (2, 0)), (2, 0))

    def test_spreads_behind_by_all_numbers(self):
        spreads = [(2, 0), (2, 1), (2, 3), (3, 3), (3, 5), (5, 5), (4, 6)]
        for one in spreads:
            for other in spreads:
                let = [(x, y) for x in range(1, 20) for y in range(1, 20) for z in range(1, 40)
                       if x + z >= one[0] and abs(x - z) <= one[1] and z + y >= other[0] and abs(z - y) <= other[1]]
                total, difference = spread_behind(one, other)
                self.assertEqual(total, min(x + y for x, y in let))
                self.assertEqual(difference, max(abs(x - y) for x, y in let))

    def test_wrong(self):
        for thing in any_objects():
            self.assertIs(raised(NoHouse, Corridor, star(), thing, None, None, None).thing, thing)
            self.assertIs(raised(NoHouse, Corridor, star(), "a", thing, None, None).thing, thing)
        for thing in any_objects() + bad_tables(LETTERS):
            self.assertIs(raised(BadLetters, Corridor, star(), "a", "c", thing, None).thing, thing)
        bad = [thing for thing in any_objects() if thing != {}]
        bad += [{("b", "d"): span} for span in BAD_SPANS] + [{("b", "a"): (0, 1)}, {("a", "c"): (0, 1)}]
        bad += [{("a", "b"): (0, 9)}, {("b", "c"): (1, None)}, {("b", "c"): (0, 0)}]
        for thing in bad:
            self.assertIs(raised(BadBoxes, Corridor, star(), "a", "c", LETTERS, thing).thing, thing)
        self.assertEqual(Corridor(star(), "a", "c", LETTERS, {("a", "b"): [0, None]}).boxes()[("a", "b")], (0, None))
        self.assertEqual(Corridor(star(), "a", "a", LETTERS, {("a", "b"): (0, 9)}).boxes()[("a", "b")], (0, 9))
        one = Corridor(star(), "a", "c", LETTERS, {})
        for thing in any_objects() + [0]:
            self.assertIs(raised(BadNumber, corridor_lets, one, thing, None).thing, thing)
            self.assertIs(raised(BadNumber, corridor_lets, one, 1, thing).thing, thing)
        for thing in any_objects() + [(1, 1), (0, 0), (2, -1), (3, 2), (3, 0), (2, None), (None, 2), (2, True), (True, 2),
                                      (2,), (2, 1, 1), {0: 2, 1: 1}, ("2", "1"), "21"]:
            self.assertIs(raised(BadSpread, spread_behind, thing, None).thing, thing)
            self.assertIs(raised(BadSpread, spread_behind, (2, 0), thing).thing, thing)


def in_boxes(boxes, gone):
    return all(gone[path] >= least and (most is None or gone[path] <= most) for path, (least, most) in boxes.items())


def naive_row(branch):
    """The ways within a branch, of rounds gone through one by one: with a letter around between any two visits."""
    letters, village = branch.letters(), branch.village()
    whole = joined_by(village, Village(["around"], []), branch.rim(), "around")
    bare = tuple(sorted([branch.rim(), "around"]))
    told = {}
    for number in range(1, sum(letters.values()) + 1):
        for row in rows_of({**letters, "around": number}):
            if row[0] == "around":
                gone = dict(zip(whole.paths(), naive_ledger(whole, row)))
                if gone[bare] == number and in_boxes(branch.boxes(), gone):
                    told[number] = told.get(number, 0) + 1
    return told


def naive_over(one, other):
    """All rounds of two branches, gone through one by one."""
    village = joined_by(one.village(), other.village(), one.rim(), other.rim())
    many = 0
    for row in rows_of({**one.letters(), **other.letters()}):
        if row and in_boxes({**one.boxes(), **other.boxes()}, dict(zip(village.paths(), naive_ledger(village, row)))):
            many += 1
    return many


def little_branches():
    """Branches of few letters."""
    for branch in some_branches():
        if sum(branch.letters().values()) < 4 and bare_pair(branch) is not None:
            yield branch


class Rows(unittest.TestCase):
    def test_rows_of_small_branches(self):
        for branch in some_branches():
            if sum(branch.letters().values()) > 4:
                continue
            told = bare_row(branch)
            self.assertEqual(told, naive_row(branch))
            pair = bare_pair(branch)
            let = [] if pair in (None, (0, 0)) else list(range(pair[0], pair[1] + 1))
            self.assertEqual(list(told), let)

    def test_examples(self):
        r = Branch(Village(["r"], []), "r", {"r": 1}, {})
        self.assertEqual(bare_row(r), {1: 1})
        self.assertEqual(bare_row(Branch(Village(["r"], []), "r", {"r": 0}, {})), {})
        twos = [Branch(Village([name], []), name, {name: 2}, {}) for name in "rs"]
        self.assertEqual(bare_row(twos[0]), {1: 1, 2: 1})
        self.assertEqual(rounds_over(*twos), 6)

    def test_rounds_over_two_branches(self):
        sample = list(little_branches())
        others = [Branch(Village(["p", "q"], [("q", "p")]), "q", letters, boxes)
                  for letters in ({"p": 2, "q": 0}, {"p": 1, "q": 1}, {"p": 0, "q": 2})
                  for boxes in ({}, {("p", "q"): (1, 1)}, {("p", "q"): (2, 2)})]
        for one in sample[::5]:
            for other in others:
                told = rounds_over(one, other)
                self.assertEqual(told, naive_over(one, other))
                self.assertEqual(told, rounds_over(other, one))
                if any(one.letters().values()):
                    rows = bare_row(one), bare_row(other)
                    many = sum(one.letters().values()) + sum(other.letters().values())
                    parts = [(many * rows[0][number] * rows[1][number], number) for number in rows[0] if number in rows[1]]
                    self.assertTrue(all(ways % number == 0 for ways, number in parts))
                    self.assertEqual(told, sum(ways // number for ways, number in parts))

    def test_all_boxes_open_are_all_orders(self):
        one = Branch(star(), "b", LETTERS, {})
        other = Branch(renamed(two(), {"a": "p", "x": "q"}), "q", {"p": 1, "q": 2}, {})
        self.assertEqual(rounds_over(one, other), factorial(8) // 4)
        whole = joined_by(star(), other.village(), "b", "q")
        self.assertEqual(rounds_over(one, other), count_orders(whole, {**LETTERS, "p": 1, "q": 2}))
        inner = {path: (number, number) for path, number in LEDGER.items()}
        told = Branch(star(), "b", LETTERS, inner)
        by_one = [count_rounds(whole, {**LETTERS, "p": 1, "q": 2}, {**LEDGER, ("b", "q"): n, ("p", "q"): 1})
                  for n in range(1, 4)]
        self.assertEqual(rounds_over(told, other), sum(by_one))

    def test_branches_with_equal_rows_and_letters_are_alike_in_numbers(self):
        one = Branch(Village(["r", "x"], [("r", "x")]), "r", {"r": 0, "x": 2}, {})
        same = Branch(Village(["r"], []), "r", {"r": 2}, {})
        self.assertIsNone(parting_number(one, same))
        self.assertEqual(bare_row(one), bare_row(same))
        other = Branch(Village(["r", "x"], [("r", "x")]), "r", {"r": 1, "x": 1}, {})
        self.assertIsNone(parting_number(one, other))
        self.assertNotEqual(bare_row(one), bare_row(other))
        around = Branch(Village(["z"], []), "z", {"z": 3}, {})
        self.assertEqual(rounds_over(one, around), rounds_over(same, around))
        self.assertNotEqual(rounds_over(one, around), rounds_over(other, around))

    def test_wrong(self):
        one, other = Branch(star(), "b", LETTERS, {}), Branch(two(), "x", {"a": 1, "x": 1}, {})
        self.assertEqual(raised(CommonHouse, rounds_over, one, other).name, "a")
        self.assertEqual(raised(CommonHouse, rounds_over, one, one).name, "a")


if __name__ == "__main__":
    unittest.main()
