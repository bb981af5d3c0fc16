"""[60] to [62]: lacks, who can get letters, letters counted."""

import unittest

from letterround.errors import BadLedger, BadNumber
from letterround.lacks import can_get, count_letters, gone_apart, lacks, least_letters
from letterround.villages import Village
from tests.helpers import (HOUSES, LEDGER, LETTERS, VILLAGES, all_ledgers, all_letters, any_objects, bad_tables, chain,
                           lone, naive_ways, raised, rounds_by_ledger, star)

NONE = {path: 0 for path in LEDGER}


def cases():
    """All pairs of a small village and a ledger of it."""
    for make in VILLAGES:
        village = make()
        for ledger in all_ledgers(village, 2 if len(village) > 4 else 3):
            yield village, ledger


def naive_apart(village, ledger):
    """The first pair of gone paths with one not gone between."""
    gone = [path for path in ledger if ledger[path]]
    for path in gone:
        for other in gone:
            if path < other:
                ways = [naive_ways(village)[(one, far)] for one in path for far in other]
                between = min(ways, key=len)
                if any(not ledger[tuple(sorted(step))] for step in zip(between, between[1:])):
                    return path, other
    return None


def fitting(village, ledger, most):
    """All letters, so many at most, of which some round has the ledger."""
    numbers = tuple(ledger.values())
    return [letters for letters in all_letters(village, most) if numbers in rounds_by_ledger(village, letters)]


class Lacks(unittest.TestCase):
    def test_lacks_and_gone_apart(self):
        self.assertEqual(lacks(star(), LEDGER), {"a": 2, "b": 0, "c": 1, "d": 1})
        self.assertEqual(lacks(lone(), {}), {"x": 0})
        self.assertEqual(lacks(star(), {("a", "b"): 5, ("b", "c"): 1, ("b", "d"): 1}), {"a": 5, "b": 3, "c": 1, "d": 1})
        self.assertIsNone(gone_apart(star(), NONE))
        self.assertIsNone(gone_apart(lone(), {}))
        self.assertEqual(gone_apart(chain(), {("a", "c"): 0, ("a", "d"): 1, ("b", "c"): 2}), (("a", "d"), ("b", "c")))
        for village, ledger in cases():
            told = lacks(village, ledger)
            self.assertEqual(list(told), village.houses())
            for house in told:
                gone = sorted(ledger[path] for path in ledger if house in path)
                self.assertEqual(told[house], max(0, gone[-1] - sum(gone[:-1])) if gone else 0)
            self.assertEqual(gone_apart(village, ledger), naive_apart(village, ledger))

    def test_gone_apart_in_three_parts(self):
        village = Village(list("abcdefg"), [("a", "b"), ("b", "c"), ("c", "d"), ("d", "e"), ("e", "f"), ("f", "g")])
        for ledger in all_ledgers(village, 1):
            self.assertEqual(gone_apart(village, ledger), naive_apart(village, ledger))

    def test_who_can_get(self):
        for village, ledger in cases():
            numbers = tuple(ledger.values())
            for letters in all_letters(village, 4):
                told = can_get(village, ledger, letters)
                self.assertIs(told, numbers in rounds_by_ledger(village, letters))
        for thing in any_objects() + bad_tables(LETTERS) + [{house: 0 for house in HOUSES}]:
            self.assertIs(can_get(star(), LEDGER, thing), False)
            self.assertIs(can_get(star(), NONE, thing), False)
        self.assertIs(can_get(star(), LEDGER, LETTERS), True)
        self.assertIs(can_get(star(), NONE, {"a": 0, "b": 0, "c": 7, "d": 0}), True)
        self.assertIs(can_get(lone(), {}, {"x": 1}), True)

    def test_letters_fit_just_by_lacks_at_touched_houses(self):
        for village, ledger in cases():
            if gone_apart(village, ledger) is None:
                touched = {house for path in ledger if ledger[path] for house in path}
                lack = lacks(village, ledger)
                for letters in all_letters(village, 5 if len(village) < 5 else 4):
                    if touched:
                        told = all(letters[house] >= lack[house] for house in touched)
                        told = told and all(not letters[house] for house in letters if house not in touched)
                    else:
                        told = sum(number > 0 for number in letters.values()) == 1
                    self.assertIs(can_get(village, ledger, letters), told)

    def test_least_letters(self):
        self.assertEqual(least_letters(star(), LEDGER), {"a": 2, "b": 0, "c": 1, "d": 1})
        self.assertEqual(least_letters(star(), NONE), {"a": 1, "b": 0, "c": 0, "d": 0})
        self.assertEqual(least_letters(lone(), {}), {"x": 1})
        for village, ledger in cases():
            told = least_letters(village, ledger)
            self.assertEqual(told is None, gone_apart(village, ledger) is not None)
            if told is not None:
                self.assertEqual(list(told), village.houses())
                self.assertTrue(can_get(village, ledger, told))
                if any(ledger.values()):
                    for letters in fitting(village, ledger, 5 if len(village) < 5 else 4):
                        self.assertTrue(all(told[house] <= letters[house] for house in told))
            else:
                self.assertEqual(fitting(village, ledger, 4), [])


class Counted(unittest.TestCase):
    def test_count_letters(self):
        self.assertEqual(count_letters(star(), LEDGER, 5), 4)
        self.assertEqual(count_letters(star(), LEDGER, 4), 1)
        self.assertEqual(count_letters(star(), LEDGER, 3), 0)
        self.assertEqual((count_letters(star(), NONE, 0), count_letters(star(), NONE, 9)), (0, 4))
        self.assertEqual((count_letters(lone(), {}, 0), count_letters(lone(), {}, 9)), (0, 1))
        for village, ledger in cases():
            most = 5 if len(village) < 5 else 4
            many = [sum(letters.values()) for letters in fitting(village, ledger, most)]
            for number in range(most + 1):
                self.assertEqual(count_letters(village, ledger, number), many.count(number))

    def test_great_numbers(self):
        self.assertEqual(count_letters(star(), LEDGER, 10000), 9999 * 9998 * 9997 // 6)
        self.assertEqual(count_letters(star(), {**NONE, ("b", "c"): 999999999}, 2 * 999999999 + 4), 5)


class Wrong(unittest.TestCase):
    def test_ledgers_and_numbers(self):
        for thing in any_objects() + bad_tables(LEDGER):
            for function in (lacks, gone_apart, least_letters):
                self.assertIs(raised(BadLedger, function, star(), thing).thing, thing)
            for function in (can_get, count_letters):
                self.assertIs(raised(BadLedger, function, star(), thing, None).thing, thing)
        for thing in any_objects():
            for ledger in (LEDGER, NONE):
                self.assertIs(raised(BadNumber, count_letters, star(), ledger, thing).thing, thing)
            self.assertIs(raised(BadNumber, count_letters, chain(), {("a", "c"): 0, ("a", "d"): 1, ("b", "c"): 2},
                                 thing).thing, thing)


if __name__ == "__main__":
    unittest.main()
