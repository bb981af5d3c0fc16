"""[69], [77], [84], [105]: tellers, branches, corridors, lots and errands at the limits."""

import unittest

from letterround.alikebranches import parting_number
from letterround.barerows import bare_row, rounds_over
from letterround.branches import Branch, bare_pair, hung, inner_ledger
from letterround.corridors import Corridor, bare_spread, corridor_lets
from letterround.counting import count_orders
from letterround.errands import errands_fault, errands_with
from letterround.letters import letters_of
from letterround.lotchanges import lot_cut, lot_joined
from letterround.othervillages import joined_by
from letterround.pathcounts import ends_for, errands_of, run_numbers
from letterround.rounds import ledger_of
from letterround.roundlots import is_lot, lot_ledger, lot_numbers, lot_of
from letterround.runs import counts_of
from letterround.tellers import can_be_right, fewest_liars, teller_clash
from letterround.therule import can_be
from letterround.villages import Village
from tests.helpers import great_village, long_row

KINDS = ("chain", "star", "tree")


class Tellers(unittest.TestCase):
    def test_ten_tellers_in_ten_houses(self):
        for kind in KINDS:
            village = great_village(10, kind)
            paths = village.paths()
            tellers = [(paths[0], 999999999), (paths[1], 1), (paths[2], 4), (paths[4], 0), ("h1", 3), ("h2", 0),
                       ("h3", 7), ("h8", 1), ("h9", 0), (paths[8], 2)]
            clash, liars = teller_clash(village, tellers), fewest_liars(village, tellers)
            self.assertEqual(can_be_right(village, tellers), clash is None)
            for lot in liars:
                left = [tellers[index] for index in range(10) if index not in lot]
                self.assertIs(can_be_right(village, left), True)
            if clash is not None:
                self.assertIs(can_be_right(village, [tellers[index] for index in clash]), False)
                self.assertTrue(all(set(lot) & set(clash) for lot in liars))

    def test_ten_tellers_that_all_differ_or_agree(self):
        village = great_village(10, "tree")
        self.assertEqual(fewest_liars(village, [("h0", number) for number in range(10)]),
                         [[other for other in range(10) if other != index] for index in range(9, -1, -1)])
        self.assertEqual(fewest_liars(village, [("h0", 5)] * 10), [[]])
        self.assertEqual(teller_clash(village, [(house, 0) for house in village.houses()]), list(range(10)))


class Branches(unittest.TestCase):
    def branch(self, number, kind, letter, rim):
        village = great_village(number, kind)
        names = {house: letter + house for house in village.houses()}
        paths = [(names[one], names[other]) for one, other in village.paths()]
        renamed = Village(list(names.values()), paths)
        letters = {house: 6 + (place * 17 + 5) % 45 for place, house in enumerate(renamed.houses())}
        boxes = {path: (place % 7, 40 + place % 11) for place, path in enumerate(renamed.paths()) if place % 4}
        return Branch(renamed, letter + rim, letters, boxes)

    def test_twenty_houses_with_letters_to_fifty(self):
        around = Village(["z"], [])
        for kind in KINDS:
            branch = self.branch(20, kind, "", "h3")
            least, most = bare_pair(branch)
            self.assertIsNone(inner_ledger(branch, most + 1))
            whole = joined_by(branch.village(), around, "h3", "z")
            for number in (least, (least + most) // 2, most):
                ledger = inner_ledger(branch, number)
                self.assertTrue(all(ledger[path] >= low and (high is None or ledger[path] <= high)
                                    for path, (low, high) in branch.boxes().items()))
                self.assertTrue(can_be(whole, {**branch.letters(), "z": number}, {**ledger, ("h3", "z"): number}))
            other = self.branch(20, kind, "o", "h7")
            both = hung(branch, "h5", other, (0, None))
            self.assertEqual(len(both.village()), 40)
            self.assertEqual(parting_number(both, both), None)
            corridor = Corridor(branch.village(), "h0", "h19", branch.letters(), {})
            total, difference = bare_spread(corridor)
            self.assertIs(corridor_lets(corridor, total, total + difference), True)
            self.assertIs(corridor_lets(corridor, total, total + difference + 1), False)

    def test_rows_of_five_houses_and_eight_letters(self):
        for kind in KINDS:
            village = great_village(5, kind)
            for numbers in ((2, 2, 2, 1, 1), (0, 2, 2, 2, 2), (4, 0, 0, 0, 4), (1, 3, 1, 2, 1), (8, 0, 0, 0, 0)):
                letters = dict(zip(village.houses(), numbers))
                one = Branch(village, "h0", letters, {})
                least, most = bare_pair(one)
                self.assertEqual(list(bare_row(one)), list(range(least, most + 1)))
                paths = [("p", "q"), ("q", "r"), ("q", "s"), ("s", "t")]
                other = Branch(Village(list("pqrst"), paths), "q", dict(zip("pqrst", numbers)), {})
                whole = joined_by(village, other.village(), "h0", "q")
                self.assertEqual(rounds_over(one, other), count_orders(whole, {**letters, **other.letters()}))


class Lots(unittest.TestCase):
    def test_sixty_letters_in_twenty_houses(self):
        for kind in KINDS:
            village = great_village(20, kind)
            for row in (long_row(60, village), village.houses() * 3, (village.houses() + village.houses()[::-1])[:30] * 2):
                letters, ledger = letters_of(village, row), ledger_of(village, row)
                least, most = lot_numbers(village, letters, ledger)
                self.assertEqual(least, 1)
                for number in (1, 2, (1 + most) // 2, most):
                    lot = lot_of(village, letters, ledger, number)
                    self.assertEqual(len(lot), number)
                    self.assertIs(is_lot(village, letters, lot), True)
                    self.assertEqual(lot_ledger(village, lot), ledger)
                self.assertIsNone(lot_of(village, letters, ledger, most + 1))
                cut = lot_cut(village, [row], 0)
                self.assertEqual((len(cut), lot_ledger(village, cut)), (most, ledger))
                both = lot_joined(village, [row, row], 1, 0)
                self.assertEqual(lot_ledger(village, both), {path: 2 * ledger[path] for path in ledger})


class Errands(unittest.TestCase):
    def test_two_hundred_runs_in_sixty_houses(self):
        for kind in KINDS:
            village = great_village(60, kind)
            row = long_row(400, village)
            errands = [(one, other) for one, other in zip(row, row[1:]) if one != other][:200]
            counts = counts_of(village, errands)
            self.assertIsNone(errands_fault(village, counts))
            told = errands_with(village, counts)
            self.assertEqual((len(told), counts_of(village, told)), (200, counts))
            fewest, most = run_numbers(village, counts[0])
            self.assertTrue(fewest <= 200 <= most)
            for number in (fewest, 200, most):
                self.assertEqual(counts_of(village, errands_of(village, counts[0], number))[0], counts[0])
            for house in village.houses():
                self.assertIn(counts[1][house], ends_for(village, counts[0], house))


if __name__ == "__main__":
    unittest.main()
