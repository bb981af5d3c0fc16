"""[68]: tellers, who of them clash, who of them lie."""

import unittest
from functools import lru_cache
from itertools import combinations, product

from letterround.errors import BadTellers
from letterround.tellers import can_be_right, fewest_liars, teller_clash
from letterround.therule import can_be
from tests.helpers import LEDGER, LETTERS, all_ledgers, any_objects, lone, raised, star, two


@lru_cache(maxsize=None)
def right_pairs(make, most):
    """All pairs of letters and a ledger of a round with them, numbers to most, as one dict each."""
    village = make()
    told = []
    for numbers in product(range(most + 1), repeat=len(village)):
        letters = dict(zip(village.houses(), numbers))
        if any(numbers):
            told += [{**letters, **ledger} for ledger in all_ledgers(village, most) if can_be(village, letters, ledger)]
    return told


def naive_can(make, tellers, most):
    return any(all(pair[of] == number for of, number in tellers) for pair in right_pairs(make, most))


def naive_clash(make, tellers, most):
    for size in range(len(tellers) + 1):
        for indexes in combinations(range(len(tellers)), size):
            if not naive_can(make, [tellers[index] for index in indexes], most):
                return list(indexes)
    return None


def naive_liars(make, tellers, most):
    for size in range(len(tellers) + 1):
        told = [list(indexes) for indexes in combinations(range(len(tellers)), size)
                if naive_can(make, [tellers[index] for index in range(len(tellers)) if index not in indexes], most)]
        if told:
            return told
    return None


def some_tellers(things):
    """Lists of tellers of several kinds, some of them of one thing twice."""
    for kind in range(150):
        told = []
        for place in range(kind % 6):
            mixed = kind * 11 + place * 7 + kind * place
            told.append((things[mixed % len(things)], (mixed // 3) % 3))
        yield told


class Tellers(unittest.TestCase):
    def test_all_kinds_in_small_villages(self):
        seen = set()
        for make, most in ((star, 2), (two, 3), (lone, 3)):
            village = make()
            for tellers in some_tellers(village.houses() + village.paths()):
                told = can_be_right(village, tellers)
                self.assertIs(told, naive_can(make, tellers, most), tellers)
                clash = teller_clash(village, tellers)
                self.assertEqual(clash, naive_clash(make, tellers, most))
                self.assertEqual(clash is None, told)
                self.assertEqual(fewest_liars(village, tellers), naive_liars(make, tellers, most))
                seen.add(len(clash or []))
        self.assertGreater(len(seen), 2)

    def test_examples_and_edges(self):
        tellers = [("a", 1), (("a", "b"), 2)]
        self.assertIs(can_be_right(star(), tellers), False)
        self.assertEqual(teller_clash(star(), tellers), [0, 1])
        self.assertEqual(fewest_liars(star(), tellers), [[0], [1]])
        self.assertIs(can_be_right(star(), []), True)
        self.assertIsNone(teller_clash(star(), []))
        self.assertEqual(fewest_liars(star(), ()), [[]])
        twice = [("a", 1), ("a", 1), ("a", 2), ("a", 1)]
        self.assertEqual(teller_clash(star(), twice), [0, 2])
        self.assertEqual(fewest_liars(star(), twice), [[2]])
        other_way = [(("b", "a"), 2), (["a", "b"], 1)]
        self.assertEqual(teller_clash(star(), other_way), [0, 1])
        self.assertIs(can_be_right(star(), [*LETTERS.items(), *LEDGER.items()]), True)
        self.assertEqual(teller_clash(lone(), [("x", 3), ("x", 0)]), [1])
        self.assertEqual(fewest_liars(lone(), [("x", 0)]), [[0]])
        self.assertEqual(teller_clash(star(), [(house, 0) for house in "abcd"]), [0, 1, 2, 3])
        self.assertEqual(fewest_liars(star(), [(house, 0) for house in "dcba"]), [[0], [1], [2], [3]])

    def test_a_number_however_great(self):
        great = 10 ** 12
        self.assertIs(can_be_right(star(), [(("a", "b"), great), ("c", 0)]), True)
        self.assertIs(can_be_right(star(), [(("a", "b"), great), ("c", great), ("d", 0), ("b", 0)]), True)
        self.assertEqual(teller_clash(star(), [(("a", "b"), great), ("c", great - 1), ("d", 0), ("b", 0)]), [0, 1, 2, 3])
        self.assertIs(can_be_right(star(), [("b", great)]), True)

    def test_wrong(self):
        for function in (can_be_right, teller_clash, fewest_liars):
            for thing in [None, True, 0, -1, "a", "", {}, {"a": 1}, star(), any_objects, len]:
                self.assertEqual(raised(BadTellers, function, star(), thing).index, 0)
            bad = any_objects() + [("a",), ("a", 1, 2), ("zz", 1), ("a", -1), ("a", True), ("a", None), ("a", "1"),
                                   (("a", "c"), 1), (("a", "a"), 1), (("a", "b", "c"), 1), (("a", "zz"), 1), (("a",), 1),
                                   (("a", None), 1), (1, "a"), ({"a": 1}, 1), (None, 1), {0: "a", 1: 1}, ("ab", 1)]
            for thing in bad:
                self.assertEqual(raised(BadTellers, function, star(), [("a", 1), thing, thing]).index, 1)
                self.assertEqual(raised(BadTellers, function, star(), (thing,)).index, 0)


if __name__ == "__main__":
    unittest.main()
