"""[54] to [56]: right ledgers in boxes, papers, numbers of one path, ledgers counted and in order."""

import unittest

from letterround.boxcounts import count_in, index_in, ledger_at
from letterround.boxes import box_paper, greatest_in, path_numbers, sure_paths
from letterround.errors import BadBox, BadIndex, BadLedger, BadLetters, NoHouse, NoPath, NotPossible
from letterround.therule import parting_paths
from tests.helpers import (LEDGER, LETTERS, any_objects, bad_spans, bad_tables, ledgers_there, lone, raised,
                           small_cases, star, two)
from tests.test_caps import all_lots, pairs_of, sum_of

WIDE = {path: (0, 2) for path in LEDGER}
SHUT = {path: (0, 0) for path in LEDGER}


def some_boxes(village):
    """Boxes of several kinds: some with one number alone, some from 0 on, some high."""
    for kind in range(6):
        told = {}
        for place, path in enumerate(village.paths()):
            least = (place + kind) % 3 if kind else 0
            told[path] = (least, least + (5 * place + kind) % 3 + kind % 2)
        yield told


def inside(village, letters, box):
    """All right ledgers in a box, ascending as their rows of numbers."""
    there = [ledger for ledger in ledgers_there(village, letters)
             if all(box[path][0] <= ledger[path] <= box[path][1] for path in box)]
    return sorted(there, key=lambda ledger: list(ledger.values()))


class Boxes(unittest.TestCase):
    def test_all_small_villages(self):
        for village, letters in small_cases(5):
            for box in some_boxes(village):
                there = inside(village, letters, box)
                told = greatest_in(village, letters, box)
                self.assertEqual(box_paper(village, letters, box) is None, bool(there))
                if not there:
                    self.assertIsNone(told)
                    raised(NotPossible, sure_paths, village, letters, box)
                    continue
                self.assertIn(told, there)
                self.assertEqual(list(told), village.paths())
                for path in village.paths():
                    numbers = {ledger[path] for ledger in there}
                    self.assertEqual(told[path], max(numbers))
                    least, most = path_numbers(village, letters, box, *path)
                    self.assertEqual(numbers, set(range(least, most + 1)))
                    self.assertEqual(path_numbers(village, letters, box, path[1], path[0]), (least, most))
                alone = [path for path in village.paths() if len({ledger[path] for ledger in there}) == 1]
                self.assertEqual(sure_paths(village, letters, box), alone)

    def test_box_paper_is_the_first_pair_with_a_lot(self):
        for village, letters in small_cases(3):
            parting = parting_paths(village, letters)
            for box in some_boxes(village):
                mosts = {path: box[path][1] for path in box}
                held = []
                for house, other in pairs_of(village):
                    path = tuple(sorted([house, other]))
                    asked = max(box[path][0], int(path in parting))
                    sums = [sum_of(village, letters, mosts, house, other, lot)
                            for lot in all_lots(village, house, other)]
                    if min(sums) < asked:
                        held.append((house, other, asked))
                paper = box_paper(village, letters, box)
                self.assertEqual(paper[:2] if paper else None, held[0][:2] if held else None)
                if paper:
                    self.assertIn(paper[2], list(all_lots(village, *paper[:2])))
                    self.assertLess(sum_of(village, letters, mosts, *paper), held[0][2])

    def test_examples_and_edges(self):
        self.assertEqual(count_in(star(), LETTERS, WIDE), 2)
        self.assertEqual(path_numbers(star(), LETTERS, WIDE, "a", "b"), (1, 2))
        self.assertEqual(sure_paths(star(), LETTERS, WIDE), [("b", "c"), ("b", "d")])
        self.assertEqual(greatest_in(star(), LETTERS, WIDE), LEDGER)
        self.assertIsNone(greatest_in(star(), LETTERS, SHUT))
        self.assertEqual(box_paper(star(), LETTERS, SHUT), ("a", "b", []))
        self.assertEqual(box_paper(star(), LETTERS, {**WIDE, ("a", "b"): (3, 3)}), ("b", "a", ["a"]))
        for thing in (greatest_in(lone(), {"x": 2}, {}), ledger_at(lone(), {"x": 2}, {}, 0)):
            self.assertEqual(thing, {})
        self.assertEqual((sure_paths(lone(), {"x": 1}, {}), count_in(lone(), {"x": 1}, {})), ([], 1))
        self.assertEqual(index_in(lone(), {"x": 1}, {}, {}), 0)
        alone = {"a": 0, "b": 4, "c": 0, "d": 0}
        self.assertEqual(count_in(star(), alone, WIDE), 1)
        self.assertEqual(count_in(star(), alone, SHUT), 1)
        self.assertEqual(sure_paths(star(), alone, WIDE), list(LEDGER))
        self.assertEqual(count_in(star(), alone, {**WIDE, ("a", "b"): (1, 2)}), 0)
        self.assertEqual(path_numbers(two(), {"a": 8, "x": 9}, {("a", "x"): (3, 999999999)}, "x", "a"), (3, 8))
        self.assertEqual(path_numbers(two(), {"a": 8, "x": 9}, {("a", "x"): (5, 5)}, "x", "a"), (5, 5))


class Counted(unittest.TestCase):
    def test_all_small_villages(self):
        for village, letters in small_cases(5):
            for box in some_boxes(village):
                there = inside(village, letters, box)
                self.assertEqual(count_in(village, letters, box), len(there))
                for index, ledger in enumerate(there):
                    self.assertEqual(ledger_at(village, letters, box, index), ledger)
                    self.assertEqual(list(ledger_at(village, letters, box, index)), village.paths())
                    self.assertEqual(index_in(village, letters, box, ledger), index)
                self.assertEqual(raised(BadIndex, ledger_at, village, letters, box, len(there)).thing, len(there))

    def test_order_of_rows_of_numbers(self):
        letters = {"a": 3, "b": 3, "c": 3, "d": 3}
        box = {path: (0, 3) for path in LEDGER}
        told = [ledger_at(star(), letters, box, number) for number in range(count_in(star(), letters, box))]
        self.assertEqual([list(ledger.values()) for ledger in told],
                         [[a, b, c] for a in (1, 2, 3) for b in (1, 2, 3) for c in (1, 2, 3)])

    def test_wrong(self):
        many = count_in(star(), LETTERS, WIDE)
        for thing in any_objects() + [many, 10 ** 30]:
            self.assertIs(raised(BadIndex, ledger_at, star(), LETTERS, WIDE, thing).thing, thing)
            self.assertIs(raised(BadIndex, ledger_at, star(), LETTERS, SHUT, thing).thing, thing)
        ones = {path: 1 for path in LEDGER}
        for thing in any_objects() + bad_tables(LEDGER) + [{**LEDGER, ("a", "b"): 3}, {**LEDGER, ("b", "c"): 0},
                                                           {**LEDGER, ("b", "d"): 2}]:
            self.assertIs(raised(BadLedger, index_in, star(), LETTERS, WIDE, thing).thing, thing)
        self.assertIs(raised(BadLedger, index_in, star(), LETTERS, {**WIDE, ("a", "b"): (2, 2)}, ones).thing, ones)
        self.assertIs(raised(BadLedger, index_in, star(), LETTERS, SHUT, ones).thing, ones)
        self.assertEqual(index_in(star(), LETTERS, {**WIDE, ("a", "b"): (2, 2)}, LEDGER), 0)


class Wrong(unittest.TestCase):
    def test_letters_boxes_houses(self):
        for function, rest in ((greatest_in, 0), (box_paper, 0), (sure_paths, 0), (path_numbers, 2), (count_in, 0),
                               (ledger_at, 1), (index_in, 1)):
            for thing in any_objects() + bad_tables(LETTERS):
                self.assertIs(raised(BadLetters, function, star(), thing, *[None] * (rest + 1)).thing, thing)
            for thing in any_objects() + bad_spans(WIDE):
                self.assertIs(raised(BadBox, function, star(), LETTERS, thing, *[None] * rest).thing, thing)
        raised(NotPossible, path_numbers, star(), LETTERS, SHUT, None, None)
        for thing in any_objects():
            self.assertIs(raised(NoHouse, path_numbers, star(), LETTERS, WIDE, thing, None).thing, thing)
            self.assertIs(raised(NoHouse, path_numbers, star(), LETTERS, WIDE, "a", thing).thing, thing)
        for house, other in [("a", "c"), ("d", "c"), ("a", "a")]:
            error = raised(NoPath, path_numbers, star(), LETTERS, WIDE, house, other)
            self.assertEqual((error.one, error.other), (house, other))


if __name__ == "__main__":
    unittest.main()
