"""[84], the head of section 12, [105], [114]: bags, hours, runs, pairings and weaves at the limits."""

import unittest

from letterround.ahead import can_be_ahead, fewest_ahead, sure_order
from letterround.earlyrounds import early_round, late_round
from letterround.endsalone import ends_fault, longest_errands, path_range, shortest_errands
from letterround.firsthours import first_hours, last_hours, least_stretch
from letterround.hours import bar_between, can_follow, hours_of, whole_hours
from letterround.joined import by_both, errands_between, possible_runs, runs_range, sure_runs
from letterround.letters import letters_of
from letterround.offices import are_bags, bag_fault, bag_numbers, bags_of
from letterround.pairings import count_apart, count_pairings, pairing_at, pairing_number
from letterround.pairlots import pair_lot, pair_numbers
from letterround.rounds import ledger_of
from letterround.roundlots import is_lot, lot_ledger
from letterround.runs import counts_of
from letterround.villages import beside
from letterround.weaves import all_errands, count_weaves, is_weave, runs_by, weave_at, weave_number
from tests.helpers import great_village, long_row

KINDS = ("chain", "star", "tree")


class Bags(unittest.TestCase):
    def test_sixty_letters_in_twenty_houses(self):
        for kind in KINDS:
            village = great_village(20, kind)
            for row in (long_row(60, village), village.houses() * 3):
                letters, ledger = letters_of(village, row), ledger_of(village, row)
                numbers = pair_numbers(village, letters, ledger)
                if numbers is not None:
                    for number in (numbers[0], sum(numbers) // 2, numbers[1]):
                        lot = pair_lot(village, letters, ledger, number)
                        self.assertEqual((len(lot), max(map(len, lot)) <= 2, is_lot(village, letters, lot)), (number, True, True))
                        self.assertEqual(lot_ledger(village, lot), ledger)
                for house in (row[0], "h0", "h19"):
                    least, most = bag_numbers(village, letters, ledger, house)
                    for number in (least, (least + most) // 2, most):
                        told = bags_of(village, letters, ledger, house, number)
                        self.assertEqual(len(told), number)
                        self.assertIs(are_bags(village, letters, ledger, house, told), True)
                    self.assertEqual(bag_fault(village, letters, ledger, house, most + 1), ("many", most))


class Hours(unittest.TestCase):
    def test_sixty_letters_in_thirty_houses(self):
        for kind in KINDS:
            village = great_village(30, kind)
            row = long_row(60, village)
            letters, ledger = letters_of(village, row), ledger_of(village, row)
            lengths = {path: 1000000 - 37 * place for place, path in enumerate(village.paths())}
            start = row[0]
            given = (village, letters, ledger)
            least, greatest = first_hours(*given, lengths, start), last_hours(*given, lengths, start)
            whole = whole_hours(village, ledger, lengths)
            hours = hours_of(village, row, lengths)
            for house in least:
                times = [hour for place, hour in zip(row, hours) if place == house]
                self.assertTrue(least[house] <= min(times) and max(times) <= greatest[house] <= whole)
                self.assertLessEqual(fewest_ahead(*given, start, house), row.index(house))
            for one, other in zip(row, row[1:] + row[:1]):
                self.assertIs(can_follow(*given, one, other), True)
                self.assertIsNone(bar_between(*given, one, other))
            order = sure_order(*given, start)
            for one, other in order:
                self.assertLess(row.index(one), row.index(other))
                self.assertIs(can_be_ahead(*given, start, other, one), False)
            for one, other in village.paths():
                told = least_stretch(*given, lengths, one, other)
                self.assertTrue(told is None if not ledger[(one, other)] else told >= 2 * lengths[(one, other)])

    def test_rounds_of_twenty_letters_that_show_hours(self):
        for kind in KINDS:
            village = great_village(30, kind)
            row = long_row(20, village)
            letters, ledger = letters_of(village, row), ledger_of(village, row)
            lengths = {path: place * place % 11 for place, path in enumerate(village.paths())}
            least, greatest = first_hours(village, letters, ledger, lengths, row[0]), last_hours(village, letters, ledger, lengths, row[0])
            for house in least:
                for function, hour in ((early_round, least[house]), (late_round, greatest[house])):
                    told = function(village, letters, ledger, lengths, row[0], house)
                    self.assertEqual((letters_of(village, told), ledger_of(village, told)), (letters, ledger))
                    pairs = list(zip(told, hours_of(village, told, lengths)))
                    self.assertIn((house, hour), pairs)


class Runs(unittest.TestCase):
    def test_two_hundred_runs_in_thirty_houses(self):
        for kind in KINDS:
            village = great_village(30, kind)
            row = long_row(300, village)
            errands = [pair for pair in zip(row, row[1:]) if pair[0] != pair[1]][:200]
            counts = counts_of(village, errands)
            possible = possible_runs(village, counts)
            self.assertLessEqual(set(sure_runs(village, counts)), set(possible))
            self.assertLessEqual({tuple(sorted(run)) for run in errands}, set(possible))
            for one, other in possible[::40]:
                least, most = runs_range(village, counts, one, other)
                for number in (least, (least + most) // 2, most):
                    told = errands_between(village, counts, one, other, number)
                    self.assertEqual(counts_of(village, told), counts)
                    self.assertEqual(sum(sorted(run) == [one, other] for run in told), number)
            paths = village.paths()
            for first, second in zip(paths[::5], paths[1::5]):
                least, most = by_both(village, counts, first, second)
                self.assertTrue(0 <= least <= most <= 200)

    def test_ends_of_great_villages_and_shortest_errands(self):
        for kind in KINDS:
            village = great_village(30, kind)
            ends = {house: (place * 7 + 3) % 13 for place, house in enumerate(village.houses())}
            ends["h0"] += sum(ends.values()) % 2
            self.assertIsNone(ends_fault(village, ends))
            by_path, by_house = counts_of(village, longest_errands(village, ends))
            self.assertEqual(by_house, ends)
            for path in village.paths():
                self.assertEqual(path_range(village, ends, *path)[-1], by_path[path])
            small = great_village(10, kind)
            for numbers in ((2, 1, 3, 0, 2, 1, 1, 2, 3, 1), (8, 0, 0, 0, 0, 0, 8, 0, 0, 0), (2, 2, 2, 2, 2, 2, 2, 2, 0, 0)):
                ends = dict(zip(small.houses(), numbers))
                short, long = [counts_of(small, function(small, ends)) for function in (shortest_errands, longest_errands)]
                self.assertEqual((short[1], long[1]), (ends, ends))
                self.assertLessEqual(sum(short[0].values()), sum(long[0].values()))


class Woven(unittest.TestCase):
    def test_twelve_houses_with_numbers_to_twelve(self):
        for kind in KINDS:
            village = great_village(12, kind)
            counts = (dict.fromkeys(village.paths(), 12), dict.fromkeys(village.houses(), 12))
            many = count_weaves(village, counts)
            for number in (0, many // 3, many - 1):
                weave = weave_at(village, counts, number)
                self.assertIs(is_weave(village, counts, weave), True)
                self.assertEqual(weave_number(village, counts, weave), number)
                self.assertEqual(counts_of(village, runs_by(village, counts, weave)), counts)
            for house in ("h0", "h11"):
                many = count_pairings(village, counts, house)
                pairing = pairing_at(village, counts, house, many - 1)
                self.assertEqual(pairing_number(village, counts, house, pairing), many - 1)

    def test_numbers_to_sixty(self):
        self.assertEqual(len(str(count_apart([60] * 12))), 860)
        for kind in KINDS:
            village = great_village(12, kind)
            counts = (dict.fromkeys(village.paths(), 60), {house: 60 * (len(beside(village, house)) % 2) for house in village.houses()})
            self.assertGreater(count_weaves(village, counts), 0)

    def test_about_three_thousand_weaves(self):
        village = great_village(12, "chain")
        counts = (dict.fromkeys(village.paths(), 2), {house: 2 * (house in ("h0", "h11")) for house in village.houses()})
        self.assertEqual(count_weaves(village, counts), 4096)
        self.assertEqual(all_errands(village, counts), [[("h0", "h11")] * 2])
        village = great_village(4, "star")
        counts = (dict.fromkeys(village.paths(), 2), {"h0": 2, "h1": 2, "h2": 2, "h3": 2})
        self.assertEqual(count_weaves(village, counts), 480)
        for errands in all_errands(village, counts):
            self.assertEqual(counts_of(village, errands), counts)


if __name__ == "__main__":
    unittest.main()
