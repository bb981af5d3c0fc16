"""[15], [24], [31], [41], [50]: villages, rounds, letters and words at the limits."""

import unittest
from math import factorial

from letterround.builtrounds import built_from, built_round, fitted
from letterround.counting import count_holding, count_orders, count_rounds, factors, first_table
from letterround.courses import closed, opened, passes_of, weights
from letterround.goingon import lost_at, next_houses, run_picker
from letterround.greatest import greatest_ledger, is_wide, least_ledger
from letterround.ladders import is_ladder, ladder, stretches
from letterround.lengths import (gathering, longest_round, middles, near_house, one_more, shortest_round, walk_length)
from letterround.letters import letters_of
from letterround.numbering import count_begun, next_round, round_at, round_number
from letterround.othervillages import built_on, joined_by, part_of, renamed
from letterround.rounds import ledger_of, signs_at, walk_of
from letterround.runs import counts_of
from letterround.therule import can_be, paper_of, round_fault
from letterround.tolls import cheapest, count_by_paces, dearest, ledger_with
from letterround.turns import count_rings, turns_of
from letterround.villages import Village
from letterround.words import count_framed, count_words
from tests.helpers import great_village, long_row, turned

KINDS = ("chain", "star", "tree")


class Limits(unittest.TestCase):
    def test_sixty_houses_two_hundred_letters(self):
        for kind in KINDS:
            village = great_village(60, kind)
            row = long_row(200, village)
            letters, ledger = letters_of(village, row), ledger_of(village, row)
            self.assertEqual(len(walk_of(village, row)), 2 * sum(ledger.values()) + 1)
            built = built_round(village, letters, ledger)
            self.assertIsNone(round_fault(village, letters, ledger, built))
            self.assertEqual(built_from(village, letters, ledger, row[-1])[0], row[-1])
            rings = {house: signs_at(village, row, house) for house in village.houses()}
            again = fitted(village, rings)
            for house in village.houses()[::9]:
                self.assertIn(list(rings[house]), turned(signs_at(village, again, house)))
            self.assertIsNone(paper_of(village, letters, ledger))

    def test_errands_and_other_villages(self):
        village = great_village(60, "tree")
        row = long_row(400, village)
        errands = [(one, other) for one, other in zip(row, row[1:]) if one != other][:200]
        by_path, by_house = counts_of(village, errands)
        self.assertEqual(sum(by_house.values()), 400)
        self.assertEqual(len(part_of(village, village.houses())), 60)
        self.assertEqual(len(built_on(village, "h7", "new")), 61)
        names = {house: "x" + house for house in village.houses()}
        self.assertEqual(len(joined_by(village, renamed(village, names), "h1", "xh1")), 120)
        self.assertEqual(sum(by_path.values()) > 200, True)

    def test_sixty_letters_going_on_in_forty_houses(self):
        for kind in KINDS:
            village = great_village(40, kind)
            row = long_row(60, village)
            letters, ledger = letters_of(village, row), ledger_of(village, row)
            self.assertIsNone(lost_at(village, letters, ledger, row))
            for size in (0, 1, 30, 59):
                self.assertIn(row[size], next_houses(village, letters, ledger, row[:size]))
            self.assertEqual(next_houses(village, letters, ledger, row), [])
            told = run_picker(village, letters, ledger, lambda begun, left, row=row: row[len(begun)])
            self.assertEqual(told, (row, "done"))
            again = []
            while len(again) < 60:
                again.append(next_houses(village, letters, ledger, again)[-1])
            self.assertIsNone(round_fault(village, letters, ledger, again))

    def test_words_of_twenty_kinds_and_forty_signs(self):
        self.assertEqual(count_words([1] * 20, 20), factorial(40) // factorial(20))
        self.assertEqual(count_words([20, 20], 0), 2)
        self.assertEqual(count_words([21, 19], 0), 0)
        self.assertEqual(count_words([20], 20), 21)
        self.assertEqual(count_framed([20, 20], 0), 1)
        self.assertGreater(count_words([2] * 20, 0), 10 ** 36)
        self.assertGreater(count_framed([2] * 19, 2), 0)

    def test_forty_letters_counted_in_twenty_houses(self):
        for kind in KINDS:
            village = great_village(20, kind)
            row = long_row(40, village)
            letters, ledger = letters_of(village, row), ledger_of(village, row)
            table = first_table(village, letters, ledger)
            self.assertEqual(count_rounds(village, letters, ledger), sum(table.values()))
            for first in list(table)[::6]:
                self.assertEqual(count_begun(village, letters, ledger, [first]), table[first])
                self.assertEqual(list(factors(village, letters, ledger, first)), village.houses())
            self.assertGreaterEqual(count_orders(village, letters), sum(table.values()))
            self.assertGreaterEqual(count_rings(village, letters, ledger) * 40, sum(table.values()))
            twice = {house: 2 for house in village.houses()}
            gone = ledger_of(village, village.houses() * 2)
            self.assertGreater(count_rings(village, twice, gone), 0)
            self.assertIn(village.houses() * 2, turns_of(village.houses() * 2))

    def test_twenty_letters_numbered_in_twelve_houses(self):
        for kind in KINDS:
            village = great_village(12, kind)
            row = long_row(20, village)
            letters, ledger = letters_of(village, row), ledger_of(village, row)
            number = round_number(village, row)
            self.assertEqual(round_at(village, letters, ledger, number), row)
            many = count_rounds(village, letters, ledger)
            last = round_at(village, letters, ledger, many - 1)
            self.assertIsNone(next_round(village, last))
            behind = next_round(village, row)
            if number + 1 < many:
                self.assertEqual(round_number(village, behind), number + 1)

    def test_twelve_letters_held_in_eight_houses(self):
        for kind in KINDS:
            village = great_village(8, kind)
            row = long_row(12, village)
            letters, ledger = letters_of(village, row), ledger_of(village, row)
            houses = village.houses()
            total = sum(count_holding(village, letters, ledger, one, other) for one in houses for other in houses)
            self.assertEqual(total, 12 * count_rounds(village, letters, ledger))

    def test_a_hundred_and_twenty_letters_and_long_paths(self):
        for kind in KINDS:
            village = great_village(60, kind)
            row = long_row(120, village)
            letters = letters_of(village, row)
            lengths = {path: 999999999 - place for place, path in enumerate(village.paths())}
            for function in (longest_round, shortest_round):
                length, told = function(village, letters, lengths)
                self.assertEqual(walk_length(village, lengths, told), length)
            length, told = longest_round(village, letters, lengths)
            self.assertIs(is_wide(village, letters, told), True)
            for house in middles(village, letters):
                self.assertEqual(2 * gathering(village, letters, lengths, house), length)
                self.assertEqual(one_more(village, letters, lengths, house), 0)
            self.assertIsNone(near_house(village, letters, lengths, 999999999))
            self.assertEqual(sum(map(len, stretches(village, letters))), sum(least_ledger(village, letters).values()))

    def test_fourteen_letters_in_ten_houses(self):
        for kind in KINDS:
            village = great_village(10, kind)
            for row in (long_row(14, village), village.houses() + ["h0", "h9", "h0", "h9"], ["h0", "h9"] * 7):
                letters = letters_of(village, row)
                greatest, least = greatest_ledger(village, letters), least_ledger(village, letters)
                steps = ladder(village, letters, greatest, least)
                self.assertIs(is_ladder(village, letters, steps), True)
                table = count_by_paces(village, letters)
                for paces in table:
                    ledger = ledger_with(village, letters, paces)
                    self.assertTrue(can_be(village, letters, ledger))
                    self.assertEqual(2 * sum(ledger.values()), paces)
                tolls = {path: [999999999 - 10 ** time * (time % 3) for time in range(8)] for path in greatest}
                most, least_sum = dearest(village, letters, tolls), cheapest(village, letters, tolls)
                for total, ledger in (most, least_sum):
                    self.assertTrue(can_be(village, letters, ledger))
                    self.assertEqual(sum(sum(tolls[path][:ledger[path]]) for path in ledger), total)
                self.assertLessEqual(least_sum[0], most[0])

    def test_courses_of_sixty_letters(self):
        for kind in KINDS:
            village = great_village(60, kind)
            row = long_row(60, village)
            passes = passes_of(village, row)
            self.assertEqual(closed(village, passes, row[0], row[-1]), ledger_of(village, row))
            told = weights(village, letters_of(village, row), row[0], row[-1])
            self.assertEqual(sum(told.values()), 118)
            course, gone = opened(village, row, 59)
            self.assertEqual((course, gone), (row[59:] + row[:59], passes_of(village, course)))

    def test_what_is_refused_may_be_longer(self):
        village = Village(["a", "b"], [("a", "b")])
        self.assertIs(can_be(village, {"a": 1, "b": 1}, {("a", "b"): 10 ** 50}), False)
        self.assertEqual(paper_of(village, {"a": 1, "b": 1}, {("a", "b"): 10 ** 50}), ("much", "a", "b"))


if __name__ == "__main__":
    unittest.main()
