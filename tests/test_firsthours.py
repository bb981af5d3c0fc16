"""[89] to [94]: first and last hours, letters ahead, who is ahead of whom, rounds that show it."""

import unittest

from letterround.ahead import can_be_ahead, fewest_ahead, sure_order
from letterround.earlyrounds import early_round, late_round
from letterround.errors import BadLengths, NoHouse, NoLetter
from letterround.firsthours import first_hour, first_hours, last_hour, last_hours
from letterround.hours import hours_of, whole_hours
from letterround.rounds import is_round
from tests.helpers import HOUSES, LEDGER, LETTERS, any_objects, bad_tables, lone, naive_ledger, raised, star, two
from tests.test_hours import ONES, cases, check_first, naive_hours, some_lengths

TIGHT = {"a": 1, "b": 0, "c": 2, "d": 1}
TWICE = {("a", "b"): 1, ("b", "c"): 2, ("b", "d"): 1}


def begun_cases(most):
    """Cases with each first house, and the rounds that begin there."""
    for village, letters, ledger, rows in cases(most):
        for start in village.houses():
            begun = [row for row in rows if row[0] == start]
            if begun:
                yield village, letters, ledger, start, begun


class Hours(unittest.TestCase):
    def test_first_and_last_hours_of_all_small_rounds(self):
        for village, letters, ledger, start, rows in begun_cases(4):
            for lengths in some_lengths(village):
                whole = whole_hours(village, ledger, lengths)
                least, greatest = {}, {}
                for row in rows:
                    for house, hour in zip(row, naive_hours(village, row, lengths)):
                        least[house] = min(hour, least.get(house, hour))
                        greatest[house] = max(hour, greatest.get(house, hour))
                given = (village, letters, ledger, lengths, start)
                self.assertEqual(list(first_hours(*given).items()), sorted(least.items()))
                self.assertEqual(list(last_hours(*given).items()), sorted(greatest.items()))
                for house in least:
                    self.assertEqual((first_hour(*given, house), last_hour(*given, house)),
                                     (least[house], greatest[house]))
                    if house != start:
                        self.assertEqual(greatest[house], whole - least[house])

    def test_rounds_that_show_them(self):
        for village, letters, ledger, start, rows in begun_cases(4):
            for lengths in some_lengths(village):
                given = (village, letters, ledger, lengths, start)
                least, greatest = first_hours(*given), last_hours(*given)
                for house in least:
                    for function, hour in ((early_round, least[house]), (late_round, greatest[house])):
                        row = function(*given, house)
                        self.assertIs(row.__class__, list)
                        self.assertIs(is_round(village, letters, row), True)
                        self.assertEqual(naive_ledger(village, row), tuple(ledger.values()))
                        self.assertEqual(row[0], start)
                        hours = naive_hours(village, row, lengths)
                        self.assertIn(hour, [told for place, told in zip(row, hours) if place == house])

    def test_examples_and_edges(self):
        given = (star(), LETTERS, LEDGER, ONES, "a")
        self.assertEqual((first_hour(*given, "c"), last_hour(*given, "c"), last_hour(*given, "a")), (2, 6, 6))
        self.assertEqual(first_hours(*given), {"a": 0, "b": 1, "c": 2, "d": 2})
        self.assertEqual(last_hours(*given), {"a": 6, "b": 7, "c": 6, "d": 6})
        row = late_round(*given, "a")
        self.assertIn(6, [hour for house, hour in zip(row, hours_of(star(), row, ONES)) if house == "a"])
        self.assertEqual(first_hour(star(), TIGHT, TWICE, ONES, "a", "d"), 4)
        self.assertEqual(fewest_ahead(star(), TIGHT, TWICE, "a", "d"), 2)
        self.assertEqual(last_hour(star(), TIGHT, TWICE, ONES, "a", "a"), 0)
        self.assertEqual((first_hours(lone(), {"x": 3}, {}, {}, "x"), last_hours(lone(), {"x": 3}, {}, {}, "x")),
                         ({"x": 0}, {"x": 0}))
        self.assertEqual((early_round(lone(), {"x": 2}, {}, {}, "x", "x"), late_round(lone(), {"x": 1}, {}, {}, "x", "x")),
                         (["x", "x"], ["x"]))
        nothing = {path: 0 for path in LEDGER}
        self.assertEqual(last_hours(star(), LETTERS, LEDGER, nothing, "b"), {"a": 0, "b": 0, "c": 0, "d": 0})
        far = {("a", "b"): 1000000, ("b", "c"): 1000000, ("b", "d"): 0}
        self.assertEqual(last_hours(star(), LETTERS, LEDGER, far, "d"), {"a": 5000000, "b": 6000000, "c": 5000000, "d": 0})

    def test_two_letters_of_the_first_house(self):
        village, letters, ledger = two(), {"a": 2, "x": 3}, {("a", "x"): 2}
        self.assertEqual(last_hour(village, letters, ledger, {("a", "x"): 5}, "a", "a"), 10)
        self.assertEqual(last_hour(village, letters, ledger, {("a", "x"): 5}, "x", "x"), 20)
        self.assertEqual(late_round(village, letters, ledger, {("a", "x"): 5}, "x", "x")[-1], "x")

    def test_wrong(self):
        for function in (first_hour, last_hour, early_round, late_round):
            check_first(self, function, [None, None, None])
            self.check_served(function, [LETTERS, LEDGER, ONES], 2)
        for function in (first_hours, last_hours):
            check_first(self, function, [None, None])
            self.check_served(function, [LETTERS, LEDGER, ONES], 1)
        for function in (fewest_ahead, can_be_ahead, sure_order):
            many = {"fewest_ahead": 2, "can_be_ahead": 3, "sure_order": 1}[function.__name__]
            check_first(self, function, [None] * many)
            self.check_served(function, [LETTERS, LEDGER], many)

    def check_served(self, function, given, many):
        if len(given) == 3:
            for thing in any_objects() + bad_tables(ONES):
                self.assertIs(raised(BadLengths, function, star(), *given[:2], thing, *[None] * many).thing, thing)
        without = [TIGHT, TWICE, ONES][:len(given)]
        for place in range(many):
            for thing in any_objects():
                houses = ["a"] * place + [thing] + [None] * (many - place - 1)
                self.assertIs(raised(NoHouse, function, star(), *given, *houses).thing, thing)
                if place:
                    houses[0] = "b"
                    self.assertIs(raised(NoHouse, function, star(), *without, *houses).thing, thing)
            houses = ["a"] * place + ["b"] * (many - place)
            self.assertEqual(raised(NoLetter, function, star(), *without, *houses).house, "b")


class Ahead(unittest.TestCase):
    def test_who_is_ahead_in_all_small_rounds(self):
        for village, letters, ledger, start, rows in begun_cases(4):
            served = [house for house in village.houses() if letters[house]]
            places = {house: min(row.index(house) for row in rows) for house in served}
            ahead = {(one, other) for row in rows for one in served for other in served if row.index(one) < row.index(other)}
            given = (village, letters, ledger, start)
            for one in served:
                self.assertEqual(fewest_ahead(*given, one), places[one])
                for other in served:
                    self.assertIs(can_be_ahead(*given, one, other), (one, other) in ahead)
            sure = [(one, other) for one in served for other in served if one != other and (other, one) not in ahead]
            self.assertEqual(sure_order(*given), sure)
            for one, other in sure:
                for third, last in sure:
                    if third == other:
                        self.assertIn((one, last), sure)

    def test_examples_and_edges(self):
        self.assertEqual(sure_order(star(), TIGHT, TWICE, "a"), [("a", "c"), ("a", "d"), ("c", "d")])
        self.assertEqual(sure_order(star(), LETTERS, LEDGER, "b"), [("b", "a"), ("b", "c"), ("b", "d")])
        self.assertIs(can_be_ahead(star(), TIGHT, TWICE, "a", "d", "c"), False)
        self.assertIs(can_be_ahead(star(), TIGHT, TWICE, "a", "a", "a"), False)
        self.assertIs(can_be_ahead(star(), TIGHT, TWICE, "a", "c", "c"), False)
        self.assertEqual(sure_order(lone(), {"x": 2}, {}, "x"), [])
        self.assertEqual(fewest_ahead(lone(), {"x": 2}, {}, "x", "x"), 0)


if __name__ == "__main__":
    unittest.main()
