"""[50], [59], [69]: courses, caps, boxes and letters not known, at the limits."""

import unittest

from letterround.boxcounts import count_in, index_in, ledger_at
from letterround.boxes import box_paper, greatest_in, path_numbers, sure_paths
from letterround.caps import greatest_beneath, holders, lets_through
from letterround.courselengths import longest_course, longest_ends, near_end_house, shortest_course, shortest_ends
from letterround.coursenumbers import course_paces, least_passes, most_passes
from letterround.courserule import course_ends, course_fault, course_with
from letterround.courses import passes_of
from letterround.greatest import greatest_ledger, least_ledger
from letterround.inall import letters_between
from letterround.lacks import can_get, count_letters, gone_apart, lacks, least_letters
from letterround.letterboxes import gone_span, house_span, is_in, letterbox_paper, sides, some_pair
from letterround.letters import letters_of
from letterround.lots import caps_paper, holding_lot, is_holding
from letterround.rounds import ledger_of
from letterround.therule import can_be, paper_of
from tests.helpers import great_village, long_row

KINDS = ("chain", "star", "tree")


class Courses(unittest.TestCase):
    def test_sixty_letters_in_sixty_houses(self):
        for kind in KINDS:
            village = great_village(60, kind)
            row = long_row(60, village)
            letters, passes = letters_of(village, row), passes_of(village, row)
            first, last = row[0], row[-1]
            self.assertIsNone(course_fault(village, letters, passes, first, last))
            self.assertIn((first, last), course_ends(village, letters, passes))
            lengths = {path: 999999999 - place for place, path in enumerate(village.paths())}
            for told in (course_with(village, letters, passes, first, last),
                         longest_course(village, letters, lengths, first, last)[1],
                         shortest_course(village, letters, lengths, first, last)[1]):
                self.assertEqual((told[0], told[-1]), (first, last))
                self.assertEqual(letters_of(village, told), letters)
            self.assertEqual(passes_of(village, course_with(village, letters, passes, first, last)), passes)
            longest, course = longest_course(village, letters, lengths, first, last)
            self.assertEqual(passes_of(village, course), most_passes(village, letters, first, last))
            self.assertIsNone(near_end_house(village, letters, lengths, first, last, longest))
            self.assertIsNotNone(near_end_house(village, letters, lengths, first, last, longest + 1))
            self.assertGreaterEqual(longest_ends(village, letters, lengths)[0], longest)
            self.assertLessEqual(shortest_ends(village, letters, lengths)[0],
                                 shortest_course(village, letters, lengths, first, last)[0])

    def test_all_letters_at_two_far_houses(self):
        village = great_village(60, "chain")
        letters = {**{house: 0 for house in village.houses()}, "h0": 30, "h59": 30}
        ones = {path: 1 for path in village.paths()}
        length, course = longest_course(village, letters, ones, "h0", "h59")
        self.assertEqual((length, course), (59 * 59, ["h0", "h59"] * 30))
        self.assertEqual(shortest_ends(village, letters, ones), (59, [("h0", "h59"), ("h59", "h0")]))

    def test_paces_of_ten_houses_and_twelve_letters(self):
        for kind in KINDS:
            village = great_village(10, kind)
            for row in (long_row(12, village), village.houses() + ["h0", "h9"], ["h0", "h9"] * 6):
                letters = letters_of(village, row)
                told = course_paces(village, letters, row[0], row[-1])
                self.assertEqual(told[0], sum(least_passes(village, letters, row[0], row[-1]).values()))
                self.assertEqual(told[-1], sum(most_passes(village, letters, row[0], row[-1]).values()))
                self.assertEqual(told, sorted(told))


class Boxes(unittest.TestCase):
    def test_caps_of_a_hundred_in_forty_houses(self):
        for kind in KINDS:
            village = great_village(40, kind)
            letters = {house: (place * 17) % 101 for place, house in enumerate(village.houses())}
            caps = {path: 100 - (place * 31) % 98 for place, path in enumerate(village.paths())}
            told = greatest_beneath(village, letters, caps)
            self.assertTrue(can_be(village, letters, told))
            self.assertIsNone(caps_paper(village, letters, caps))
            for one, other in village.paths():
                let = lets_through(village, letters, caps, one, other)
                self.assertIsNone(holding_lot(village, letters, caps, one, other, let))
                lot = holding_lot(village, letters, caps, one, other, let + 1)
                self.assertIs(is_holding(village, letters, caps, one, other, let + 1, lot), True)
                self.assertEqual(min(let, lets_through(village, letters, caps, other, one)), told[(one, other)])
            path = village.paths()[20]
            paths, houses = holders(village, letters, caps, *path)
            self.assertEqual((paths, houses), (sorted(paths), sorted(houses)))
            box = {other: (told[other] // 3, caps[other]) for other in told}
            self.assertEqual(greatest_in(village, letters, box), told)
            self.assertIsNone(box_paper(village, letters, box))
            self.assertEqual(path_numbers(village, letters, box, *path)[1], told[path])
            self.assertLessEqual(len(sure_paths(village, letters, box)), 39)
            tight = {other: (told[other] + 1, 999999999) for other in told}
            self.assertIsNotNone(box_paper(village, letters, tight))

    def test_counted_in_forty_houses_of_four_paths_and_mosts_of_ten(self):
        for kind in ("chain", "tree"):
            village = great_village(40, kind)
            letters = {house: 10 + place % 3 for place, house in enumerate(village.houses())}
            box = {path: (place % 2, 10) for place, path in enumerate(village.paths())}
            many = count_in(village, letters, box)
            self.assertGreater(many, 10 ** 30)
            self.assertEqual(ledger_at(village, letters, box, 0), least_ledger(village, letters))
            self.assertEqual(ledger_at(village, letters, box, many - 1), {path: 10 for path in village.paths()})
            for number in (1, many // 3, many // 2 + 7, many - 2):
                ledger = ledger_at(village, letters, box, number)
                self.assertTrue(can_be(village, letters, ledger))
                self.assertEqual(index_in(village, letters, box, ledger), number)

    def test_counted_where_mosts_are_far_more_than_letters(self):
        village = great_village(12, "tree")
        letters = {house: place % 3 for place, house in enumerate(village.houses())}
        box = {path: (0, 999999999) for path in village.paths()}
        last = count_in(village, letters, box) - 1
        self.assertEqual(ledger_at(village, letters, box, last), greatest_ledger(village, letters))


class Unknown(unittest.TestCase):
    def test_ledgers_of_thirty_houses(self):
        for kind in KINDS:
            village = great_village(30, kind)
            ledger = ledger_of(village, long_row(60, village))
            self.assertIsNone(gone_apart(village, ledger))
            letters = least_letters(village, ledger)
            self.assertIs(can_get(village, ledger, letters), True)
            least = sum(lacks(village, ledger).values())
            self.assertEqual([count_letters(village, ledger, many) for many in (least - 1, least)], [0, 1])
            self.assertGreater(count_letters(village, ledger, 10000), 10 ** 30)

    def test_boxes_of_thirty_houses(self):
        for kind in KINDS:
            village = great_village(30, kind)
            box = ({house: (place % 5 // 4, 1 + place % 7) for place, house in enumerate(village.houses())},
                   {path: (place % 9 // 8, 2 + place % 6) for place, path in enumerate(village.paths())})
            box[0]["h0"] = (2, 6)
            box[0]["h29"] = (3, 6)
            self.assertEqual(len(sides(village, box)), 58)
            self.assertIsNone(letterbox_paper(village, box))
            pair = some_pair(village, box)
            self.assertIs(is_in(village, box, pair), True)
            self.assertIsNone(paper_of(village, *pair))
            for path in village.paths():
                least, most = gone_span(village, box, path)
                self.assertTrue(least <= pair[1][path] <= most)
            for house in village.houses()[::7]:
                least, most = house_span(village, box, house)
                self.assertTrue(least <= pair[0][house] <= most)

    def test_letters_in_all_of_eight_houses_and_mosts_of_twenty(self):
        for kind in KINDS:
            village = great_village(8, kind)
            box = ({house: (0, 20) for house in village.houses()},
                   {path: (place * 3 % 5, 20) for place, path in enumerate(village.paths())})
            least, most = letters_between(village, box)
            self.assertEqual(most, 160)
            ledger = {path: max(span[0], 1) for path, span in box[1].items()}
            self.assertLessEqual(least, sum(lacks(village, ledger).values()))
            self.assertGreaterEqual(least, 8)


if __name__ == "__main__":
    unittest.main()
