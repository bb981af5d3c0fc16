"""[70] to [74]: branches, inner ledgers, bare pairs, branches hung, alike, with a given pair."""

import unittest
from itertools import product

from letterround.alikebranches import boxed_branch, parting_number, told_branch
from letterround.branches import Branch, bare_pair, hung, inner_ledger, pair_at
from letterround.corridors import Corridor
from letterround.errors import (BadBoxes, BadLetters, BadNumber, BadPair, BadPairs, CommonHouse, NoHouse)
from letterround.othervillages import joined_by
from letterround.therule import can_be
from letterround.villages import Village, beside
from letterround.ways import beyond
from tests.helpers import (HOUSES, LEDGER, LETTERS, PATHS, VILLAGES, all_ledgers, any_objects, bad_tables, chain, lone,
                           raised, star, two)

RIM = Branch(Village(["r", "x", "y"], [("r", "x"), ("r", "y")]), "r", {"r": 1, "x": 4, "y": 1},
             {("r", "x"): (4, 4), ("r", "y"): (1, 1)})
BOXES = [(0, None), (0, 1), (1, 2), (0, 0), (2, 2), (1, None), (0, 3), (1, 1), (2, None)]
BAD_SPANS = [1, None, "01", (), (0,), (0, 1, 2), (2, 1), (-1, 1), (-1, None), (None, None), (None, 1), (True, 1),
             (0, True), (0, "1"), (0, [1]), {0: 1, 1: 2}, (1, 0), star()]


def some_letters(village, kind):
    """Letters of several kinds, sometimes all 0, few together."""
    mixed = [(kind * 5 + place * 3 + kind * kind * place) % 11 % 4 for place in range(len(village))]
    if kind % 8 == 0:
        mixed = [0] * len(mixed)
    while sum(mixed) > 6:
        mixed[mixed.index(max(mixed))] -= 1
    return dict(zip(village.houses(), mixed))


def some_boxes(village, kind):
    """Boxes of some paths."""
    told = {}
    for place, path in enumerate(village.paths()):
        if (kind + place) % 3:
            told[path] = BOXES[(kind * 7 + place * 4) % 9] if kind % 2 else BOXES[(0, 6, 5)[kind % 3]]
    return told


def some_branches():
    for make in VILLAGES[:4]:
        village = make()
        for rim in village.houses():
            for kind in range(24):
                yield Branch(village, rim, some_letters(village, kind), some_boxes(village, kind))
    yield from tight_branches()


def tight_branches():
    """Branches with many letters at one house, that are to be fetched often."""
    for many in (3, 4, 5):
        for least in (many - 1, many):
            for at_rim in (0, 1):
                for box in ((least, None), (least, many)):
                    yield Branch(two(), "x", {"x": at_rim, "a": many}, {("a", "x"): box})
                    yield Branch(star(), "b", {"a": many, "b": 0, "c": at_rim, "d": 0}, {("a", "b"): box})
                    yield Branch(star(), "c", {"a": many, "b": at_rim, "c": 0, "d": 0},
                                 {("a", "b"): box, ("b", "c"): (2, 4)})
                    yield Branch(chain(), "c", {"a": 0, "b": at_rim, "c": 0, "d": many}, {("a", "d"): box})


def is_inner(branch, number, ledger):
    """What [71] says of inner ledgers, path by path and house by house."""
    village, letters = branch.village(), branch.letters()
    for (one, other), (least, most) in branch.boxes().items():
        there = beyond(village, one, other)
        if branch.rim() in there:
            there = beyond(village, other, one)
        gone = ledger[(one, other)]
        if gone < least or (most is not None and gone > most) or any(letters[far] for far in there) != (gone > 0):
            return False
    for house in village.houses():
        gone = [ledger[path] for path in ledger if house in path] + [number] * (house == branch.rim())
        if 2 * max(gone, default=0) > sum(gone) + letters[house]:
            return False
    return True


def inner_ledgers(branch, number):
    most = sum(branch.letters().values())
    return [ledger for ledger in all_ledgers(branch.village(), most) if is_inner(branch, number, ledger)]


class Branches(unittest.TestCase):
    def test_what_was_passed(self):
        boxes = {("b", "d"): [1, 2]}
        letters = {"d": 1, "a": 0, "c": 0, "b": 3}
        branch = Branch(star(), "b", letters, boxes)
        boxes[("b", "d")][0] = 5
        boxes[("a", "b")] = (1, 1)
        letters["a"] = 9
        for _ in range(2):
            self.assertEqual((branch.village(), branch.rim()), (star(), "b"))
            self.assertEqual(branch.letters(), {"a": 0, "b": 3, "c": 0, "d": 1})
            self.assertEqual(list(branch.letters()), HOUSES)
            self.assertEqual(branch.boxes(), {("a", "b"): (0, None), ("b", "c"): (0, None), ("b", "d"): (1, 2)})
            self.assertEqual(list(branch.boxes()), list(LEDGER))
            branch.letters()["a"] = 7
            branch.boxes()[("a", "b")] = (0, 0)
            branch.letters().clear()
            branch.village().houses().clear()

    def test_equal(self):
        made = [("b", LETTERS, {}), ("a", LETTERS, {}), ("b", {**LETTERS, "a": 1}, {}),
                ("b", LETTERS, {("a", "b"): (0, 2)}), ("b", LETTERS, {("a", "b"): (1, None)})]
        told = [Branch(star(), *given) for given in made] + [Branch(chain(), "b", LETTERS, {})]
        for place, one in enumerate(told):
            for index, other in enumerate(told):
                self.assertIs(one == other, place == index)
                self.assertIs(one != other, place != index)
        self.assertEqual(told[0], Branch(star(), "b", dict(LETTERS), {path: [0, None] for path in LEDGER}))
        for thing in any_objects() + [Corridor(star(), "b", "b", LETTERS, {})]:
            self.assertIs(told[0] == thing, False)
            self.assertIs(thing == told[0], False)

    def test_wrong(self):
        for thing in any_objects():
            self.assertIs(raised(NoHouse, Branch, star(), thing, None, None).thing, thing)
        for thing in any_objects() + bad_tables(LETTERS):
            self.assertIs(raised(BadLetters, Branch, star(), "a", thing, None).thing, thing)
        bad = [thing for thing in any_objects() if thing != {}]
        bad += [{("b", "c"): (0, 1), ("a", "b"): span} for span in BAD_SPANS]
        bad += [{("b", "a"): (0, 1)}, {("a", "c"): (0, 1)}, {"a": (0, 1)}, {("a", "b"): (0, 1), None: (0, 1)}, list(PATHS)]
        for thing in bad:
            self.assertIs(raised(BadBoxes, Branch, star(), "a", LETTERS, thing).thing, thing)
        self.assertEqual(Branch(star(), "a", {house: 0 for house in HOUSES}, {}).letters()["a"], 0)


class Let(unittest.TestCase):
    def test_all_inner_ledgers_of_small_branches(self):
        seen = set()
        for branch in some_branches():
            total = sum(branch.letters().values())
            there = {number: inner_ledgers(branch, number) for number in range(1, total + 3)}
            let = [number for number in there if there[number]]
            pair = bare_pair(branch)
            seen.add(pair)
            if let:
                self.assertEqual(let, list(range(pair[0], pair[1] + 1)))
            else:
                empty = total == 0 and all(least == 0 for least, most in branch.boxes().values())
                self.assertEqual(pair, (0, 0) if empty else None)
            for number in there:
                told = inner_ledger(branch, number)
                if number in let:
                    self.assertIn(told, there[number])
                    self.assertEqual(list(told), branch.village().paths())
                else:
                    self.assertIsNone(told)
            self.assertIsNone(inner_ledger(branch, total + 10 ** 9))
        self.assertGreater(len(seen), 8)

    def test_examples_and_edges(self):
        self.assertEqual(bare_pair(RIM), (2, 6))
        wide = Branch(RIM.village(), "r", RIM.letters(), {**RIM.boxes(), ("r", "x"): (2, 4)})
        self.assertEqual(bare_pair(wide), (1, 6))
        self.assertEqual(inner_ledger(RIM, 2), {("r", "x"): 4, ("r", "y"): 1})
        self.assertEqual(bare_pair(Branch(lone(), "x", {"x": 3}, {})), (1, 3))
        self.assertEqual(inner_ledger(Branch(lone(), "x", {"x": 3}, {}), 3), {})
        self.assertIsNone(inner_ledger(Branch(lone(), "x", {"x": 3}, {}), 4))
        self.assertEqual(bare_pair(Branch(lone(), "x", {"x": 0}, {})), (0, 0))
        self.assertIsNone(inner_ledger(Branch(lone(), "x", {"x": 0}, {}), 1))
        nobody = {house: 0 for house in HOUSES}
        self.assertEqual(bare_pair(Branch(star(), "a", nobody, {("b", "c"): (0, 5)})), (0, 0))
        self.assertIsNone(bare_pair(Branch(star(), "a", nobody, {("b", "c"): (1, 5)})))
        self.assertIsNone(bare_pair(Branch(star(), "a", LETTERS, {("b", "c"): (0, 0)})))
        self.assertIsNone(bare_pair(Branch(star(), "a", LETTERS, {("b", "c"): (2, None)})))

    def test_what_is_let_with_what_is_around_is_a_round(self):
        for branch in list(some_branches())[::5]:
            if "x" in branch.village().houses():
                continue
            for number in range(1, 5):
                told = inner_ledger(branch, number)
                if told is not None:
                    whole = joined_by(branch.village(), Village(["x"], []), branch.rim(), "x")
                    ledger = {**told, (branch.rim(), "x"): number}
                    self.assertTrue(can_be(whole, {**branch.letters(), "x": number}, ledger))
                    self.assertFalse(can_be(whole, {**branch.letters(), "x": number - 1}, ledger))

    def test_numbers_wrong(self):
        for thing in any_objects() + [0]:
            self.assertIs(raised(BadNumber, inner_ledger, RIM, thing).thing, thing)


class Together(unittest.TestCase):
    def test_pair_at_against_all_numbers(self):
        pairs = [(0, 0), (1, 1), (1, 3), (2, 2), (3, 4), (4, 4)]
        for number in range(4):
            for count in range(4):
                for told in product(pairs, repeat=count):
                    let = []
                    spans = [range(least, most + 1) for least, most in told]
                    for bare in range(1, 20):
                        if any(2 * max(row + (bare,)) <= sum(row) + bare + number for row in product(*spans)):
                            let.append(bare)
                    self.assertEqual(pair_at(number, list(told)), (let[0], let[-1]) if let else (0, 0))
        self.assertEqual(pair_at(1, [(4, 4), (1, 1)]), (2, 6))
        self.assertEqual(pair_at(1, ([4, 4], [1, 1])), (2, 6))
        self.assertEqual((pair_at(0, []), pair_at(3, [])), ((0, 0), (1, 3)))

    def test_pair_at_wrong(self):
        for thing in any_objects():
            self.assertIs(raised(BadNumber, pair_at, thing, None).thing, thing)
        for thing in [None, True, 0, "ab", {}, {0: (1, 1)}, star(), len]:
            self.assertEqual(raised(BadPairs, pair_at, 0, thing).index, 0)
        bad = any_objects() + [(0, 1), (1, 0), (2, 1), (-1, -1), (True, True), (False, False), (0, False), (1, None),
                               (1,), (1, 2, 3), ("1", "2"), {0: 1, 1: 1}]
        for thing in bad:
            self.assertEqual(raised(BadPairs, pair_at, 0, [(1, 1), (0, 0), thing, thing]).index, 2)

    def test_a_branch_hung_on_another(self):
        small = [branch for branch in some_branches() if len(branch.village()) < 3]
        others = [Branch(Village(["p", "q"], [("q", "p")]), "q", letters, boxes)
                  for letters in ({"p": 2, "q": 0}, {"p": 1, "q": 2}, {"p": 0, "q": 0}, {"p": 3, "q": 0})
                  for boxes in ({}, {("p", "q"): (2, 3)}, {("p", "q"): (1, 1)})]
        for one in small[::4]:
            for other in others:
                for house in one.village().houses():
                    for box in ((0, None), (0, 0), (2, None), [1, 2]):
                        told = hung(one, house, other, box)
                        self.assertEqual(told.village(), joined_by(one.village(), other.village(), house, "q"))
                        self.assertEqual((told.rim(), told.letters()), (one.rim(), {**one.letters(), **other.letters()}))
                        path = tuple(sorted([house, "q"]))
                        self.assertEqual(told.boxes(), {**one.boxes(), **other.boxes(), path: tuple(box)})
                        if house == one.rim() and len(one.village()) == 1:
                            self.check_pair(told, one, other, box)

    def check_pair(self, told, one, other, box):
        """The box of a path cuts the pair beyond it."""
        inner = bare_pair(other)
        if inner is not None:
            least = max(inner[0], box[0])
            most = inner[1] if box[1] is None else min(inner[1], box[1])
            inner = (least, most) if least <= most else None
        letters = one.letters()[one.rim()]
        self.assertEqual(bare_pair(told), None if inner is None else pair_at(letters, [inner]))

    def test_hung_wrong(self):
        other = Branch(two(), "x", {"a": 1, "x": 1}, {})
        apart = Branch(Village(["p", "q"], [("q", "p")]), "q", {"p": 0, "q": 1}, {})
        one = Branch(star(), "b", LETTERS, {})
        for thing in any_objects():
            self.assertIs(raised(NoHouse, hung, one, thing, other, None).thing, thing)
        self.assertEqual(raised(CommonHouse, hung, one, "a", other, None).name, "a")
        self.assertEqual(raised(CommonHouse, hung, one, "a", Branch(star(), "d", LETTERS, {}), (0, 1)).name, "a")
        for thing in any_objects() + BAD_SPANS:
            self.assertIs(raised(BadBoxes, hung, one, "a", apart, thing).thing, thing)


class Alike(unittest.TestCase):
    def test_alike_just_where_the_bare_pairs_are_equal(self):
        branches = list(some_branches())
        kinds = {}
        for branch in branches:
            kinds.setdefault(bare_pair(branch), branch)
        told = list(kinds.values()) + [branches[-1], branches[0]]
        for one in told:
            for other in told:
                sets = []
                for branch in (one, other):
                    pair = bare_pair(branch)
                    sets.append(set(range(max(pair[0], 1), pair[1] + 1)) if pair else set())
                parted = sets[0] ^ sets[1]
                self.assertEqual(parting_number(one, other), min(parted) if parted else None)
        nobody = {house: 0 for house in HOUSES}
        empty, none = Branch(star(), "a", nobody, {}), Branch(star(), "a", nobody, {("b", "c"): (1, 5)})
        self.assertEqual((bare_pair(empty), bare_pair(none)), ((0, 0), None))
        self.assertIsNone(parting_number(empty, none))
        self.assertIsNone(parting_number(none, none))
        self.assertEqual(parting_number(none, RIM), 2)
        self.assertEqual(parting_number(RIM, empty), 2)

    def test_whatever_is_around(self):
        around = Village(["x", "y", "z"], [("x", "y"), ("x", "z")])
        letters = [{"x": 1, "y": 0, "z": 2}, {"x": 0, "y": 1, "z": 3}, {"x": 3, "y": 0, "z": 0}]
        small = [branch for branch in some_branches() if branch.village().houses() == HOUSES][::9]
        small = [branch for branch in small if sum(branch.letters().values()) < 5]
        let = [self.let_around(branch, around, letters) for branch in small]
        for place, one in enumerate(small):
            for index, other in enumerate(small[:place]):
                if parting_number(one, other) is None:
                    self.assertEqual(let[place], let[index])
                elif parting_number(one, other) < 4:
                    self.assertNotEqual(let[place], let[index])

    def let_around(self, branch, around, all_letters):
        """All ledgers around, with the bare path's number, that some inner ledger makes a round's."""
        told = []
        whole = joined_by(branch.village(), around, branch.rim(), "x")
        for place, letters in enumerate(all_letters):
            for numbers in product(range(4), repeat=3):
                outer = dict(zip([(branch.rim(), "x"), ("x", "y"), ("x", "z")], numbers))
                inner = {inner for number in [numbers[0]] if number
                         for inner in [tuple(sorted(ledger.items())) for ledger in self.ledgers_of(branch, number)]}
                if any(can_be(whole, {**branch.letters(), **letters}, {**outer, **dict(part)}) for part in inner):
                    told.append((place, numbers))
        return told

    def ledgers_of(self, branch, number):
        """All ledgers in the boxes."""
        most = sum(branch.letters().values())
        for ledger in all_ledgers(branch.village(), min(most, 3)):
            if all(box[0] <= ledger[path] and (box[1] is None or ledger[path] <= box[1])
                   for path, box in branch.boxes().items()):
                yield ledger

    def test_branches_with_a_given_pair(self):
        for least in range(1, 9):
            for most in range(least, 9):
                for pair in ((least, most), [least, most]):
                    boxed, told = boxed_branch(pair), told_branch(pair)
                    self.assertEqual(bare_pair(boxed), (least, most))
                    self.assertEqual(told is None, least > 1 and (least + most) % 2 == 1)
                    if told is not None:
                        self.assertEqual(bare_pair(told), (least, most))
                        self.assertTrue(all(box[0] == box[1] for box in told.boxes().values()))
        self.assertIsNone(told_branch((2, 5)))
        great = (999999998, 999999999)
        self.assertEqual(bare_pair(boxed_branch(great)), great)

    def test_branches_with_told_boxes_have_no_other_pairs(self):
        for make in (two, star):
            village = make()
            for kind in range(40):
                letters = some_letters(village, kind)
                boxes = {path: (number, number) for path, number in zip(village.paths(), (kind % 4, kind % 3, kind // 9))}
                for rim in village.houses():
                    pair = bare_pair(Branch(village, rim, letters, boxes))
                    self.assertTrue(pair in (None, (0, 0)) or pair[0] == 1 or sum(pair) % 2 == 0)

    def test_pairs_wrong(self):
        for thing in any_objects() + [(0, 0), (0, 1), (2, 1), (1, None), (True, 1), (1, True), (1,), (1, 2, 3), "12",
                                      {0: 1, 1: 1}, (-1, 1), ("1", "1")]:
            self.assertIs(raised(BadPair, told_branch, thing).thing, thing)
            self.assertIs(raised(BadPair, boxed_branch, thing).thing, thing)

    def test_leaves_beside_the_rim(self):
        self.assertEqual(beside(RIM.village(), RIM.rim()), ["x", "y"])


if __name__ == "__main__":
    unittest.main()
