"""[32] to [36]: live paths, lengths, middles, longest and wide rounds."""

import unittest

from letterround.errors import BadLengths, BadLetters, BadNumber, BadRound, NoHouse
from letterround.greatest import greatest_ledger, is_wide, least_ledger
from letterround.lengths import (gathering, longest_round, middles, near_house, one_more, shortest_round, walk_length)
from letterround.therule import can_be, parting_paths
from tests.helpers import (HOUSES, LEDGER, LETTERS, ROUND, any_objects, bad_tables, ledgers_there, lone, naive_ledger,
                           naive_walk, naive_ways, raised, rounds_by_ledger, small_cases, star)

ONES = {path: 1 for path in LEDGER}


def some_lengths(village):
    """Lengths of several kinds: all 0, all 1, mixed with 0, mixed without."""
    paths = village.paths()
    told = [{path: 0 for path in paths}, {path: 1 for path in paths}]
    told.append({path: (5 * place + 3) % 4 for place, path in enumerate(paths)})
    told.append({path: (7 * place) % 5 + 1 for place, path in enumerate(reversed(paths))})
    return told


def length_between(village, lengths, one, other):
    row = naive_ways(village)[(one, other)]
    return sum(lengths[tuple(sorted(step))] for step in zip(row, row[1:]))


class Ledgers(unittest.TestCase):
    def test_the_documents_example(self):
        self.assertEqual(greatest_ledger(star(), LETTERS), LEDGER)
        self.assertEqual(least_ledger(star(), LETTERS), ONES)
        self.assertEqual(list(greatest_ledger(star(), LETTERS)), list(LEDGER))
        self.assertEqual(list(least_ledger(star(), LETTERS)), list(LEDGER))

    def test_none_live(self):
        alone = {"a": 0, "b": 0, "c": 4, "d": 0}
        none = {path: 0 for path in LEDGER}
        self.assertEqual(greatest_ledger(star(), alone), none)
        self.assertEqual(least_ledger(star(), alone), none)
        self.assertEqual((greatest_ledger(lone(), {"x": 2}), least_ledger(lone(), {"x": 2})), ({}, {}))

    def test_both_are_carried_and_hold_all_others(self):
        for village, letters in small_cases(5):
            there = ledgers_there(village, letters)
            greatest, least = greatest_ledger(village, letters), least_ledger(village, letters)
            self.assertIn(greatest, there)
            self.assertIn(least, there)
            for ledger in there:
                self.assertTrue(can_be(village, letters, ledger))
                for path in village.paths():
                    self.assertTrue(least[path] <= ledger[path] <= greatest[path])
            self.assertEqual([path for path in least if least[path]], parting_paths(village, letters))

    def test_wide_rounds(self):
        self.assertIs(is_wide(star(), LETTERS, ROUND), True)
        self.assertIs(is_wide(star(), LETTERS, tuple(ROUND)), True)
        self.assertIs(is_wide(star(), LETTERS, ["a", "a", "b", "c", "d"]), False)
        for thing in any_objects() + [ROUND[1:], ROUND + ["b"]]:
            self.assertIs(is_wide(star(), LETTERS, thing), False)

    def test_wide_by_middles_on_each_way(self):
        for village, letters in small_cases(5):
            ways = naive_ways(village)
            centres = middles(village, letters)
            greatest = tuple(greatest_ledger(village, letters).values())
            for numbers, rows in rounds_by_ledger(village, letters).items():
                for row in rows[::2]:
                    steps = [ways[(row[place - 1], row[place])] for place in range(len(row))]
                    each = [all(house in step for step in steps) for house in centres]
                    self.assertEqual(is_wide(village, letters, row), any(each))
                    self.assertEqual(any(each), all(each))
                    self.assertEqual(is_wide(village, letters, row), numbers == greatest)


class Lengths(unittest.TestCase):
    def test_the_documents_example(self):
        self.assertEqual([gathering(star(), LETTERS, ONES, house) for house in HOUSES], [5, 4, 7, 7])
        self.assertEqual(middles(star(), LETTERS), ["b"])
        self.assertEqual(longest_round(star(), LETTERS, ONES)[0], 8)
        self.assertEqual(shortest_round(star(), LETTERS, ONES)[0], 6)
        self.assertEqual(near_house(star(), LETTERS, ONES, 9), "b")
        self.assertIsNone(near_house(star(), LETTERS, ONES, 8))
        self.assertEqual(near_house(star(), LETTERS, ONES, 11), "a")
        self.assertEqual(one_more(star(), LETTERS, ONES, "a"), 2)
        fewer = {**LETTERS, "b": 0}
        self.assertEqual(middles(star(), fewer), ["a", "b"])
        self.assertEqual([one_more(star(), fewer, ONES, house) for house in ("c", "a")], [2, 0])
        self.assertEqual(walk_length(star(), ONES, ROUND), 8)

    def test_one_house(self):
        self.assertEqual(longest_round(lone(), {"x": 2}, {}), (0, ["x", "x"]))
        self.assertEqual(shortest_round(lone(), {"x": 1}, {}), (0, ["x"]))
        self.assertEqual((gathering(lone(), {"x": 2}, {}, "x"), one_more(lone(), {"x": 2}, {}, "x")), (0, 0))
        self.assertEqual((near_house(lone(), {"x": 2}, {}, 0), near_house(lone(), {"x": 2}, {}, 1)), (None, "x"))
        self.assertEqual((middles(lone(), {"x": 2}), walk_length(lone(), {}, ["x"])), (["x"], 0))

    def test_longest_and_shortest_of_all_rounds(self):
        for village, letters in small_cases(4):
            for lengths in some_lengths(village):
                by_length = {}
                for numbers, rows in rounds_by_ledger(village, letters).items():
                    walk = naive_walk(village, rows[0] + rows[0][:1])
                    length = sum(lengths[tuple(sorted(step))] for step in zip(walk, walk[1:]))
                    self.assertEqual(walk_length(village, lengths, rows[0]), length)
                    by_length.setdefault(length, []).extend(rows)
                most, least = max(by_length), min(by_length)
                length, row = longest_round(village, letters, lengths)
                self.assertEqual((length, row in by_length[most]), (most, True))
                length, row = shortest_round(village, letters, lengths)
                self.assertEqual((length, row in by_length[least]), (least, True))
                if all(lengths.values()):
                    wide = [row for rows in by_length.values() for row in rows if is_wide(village, letters, row)]
                    self.assertEqual(sorted(wide), sorted(by_length[most]))
                self.check_houses(village, letters, lengths, most)

    def check_houses(self, village, letters, lengths, most):
        sums = {}
        for house in village.houses():
            sums[house] = sum(letters[far] * length_between(village, lengths, far, house) for far in letters)
            self.assertEqual(gathering(village, letters, lengths, house), sums[house])
        self.assertEqual(2 * min(sums.values()), most)
        for bound in range(most + 4):
            near = [house for house in sums if 2 * sums[house] < bound]
            self.assertEqual(near_house(village, letters, lengths, bound), near[0] if near else None)
            self.assertEqual(near == [], most >= bound)
        centres = middles(village, letters)
        for house in centres:
            self.assertEqual(sums[house], min(sums.values()))
        for house in village.houses():
            more = {**letters, house: letters[house] + 1}
            longer = longest_round(village, more, lengths)[0] - most
            self.assertEqual(one_more(village, letters, lengths, house), longer)
            self.assertEqual(longer, 2 * min(length_between(village, lengths, house, far) for far in centres))

    def test_middles(self):
        for village, letters in small_cases(5):
            ways = naive_ways(village)
            total = sum(letters.values())
            told = []
            for house in village.houses():
                sides = {}
                for far in village.houses():
                    if far != house:
                        side = ways[(house, far)][1]
                        sides[side] = sides.get(side, 0) + letters[far]
                if all(2 * many <= total for many in sides.values()):
                    told.append(house)
            self.assertEqual(middles(village, letters), told)
            self.assertTrue(told)
            longest = max([ways[(one, other)] for one in told for other in told], key=len)
            self.assertEqual(sorted(longest), told)

    def test_wrong(self):
        good = (star(), LETTERS, ONES)
        for thing in any_objects() + bad_tables(LETTERS):
            for function in (middles, greatest_ledger, least_ledger):
                self.assertIs(raised(BadLetters, function, star(), thing).thing, thing)
            for function in (longest_round, shortest_round):
                self.assertIs(raised(BadLetters, function, star(), thing, None).thing, thing)
            for function in (gathering, near_house, one_more):
                self.assertIs(raised(BadLetters, function, star(), thing, None, None).thing, thing)
            self.assertIs(raised(BadLetters, is_wide, star(), thing, ROUND).thing, thing)
        for thing in any_objects() + bad_tables(ONES):
            for function in (longest_round, shortest_round):
                self.assertIs(raised(BadLengths, function, star(), LETTERS, thing).thing, thing)
            for function in (gathering, near_house, one_more):
                self.assertIs(raised(BadLengths, function, star(), LETTERS, thing, None).thing, thing)
            self.assertIs(raised(BadLengths, walk_length, star(), thing, None).thing, thing)
        for thing in any_objects():
            self.assertIs(raised(NoHouse, gathering, *good, thing).thing, thing)
            self.assertIs(raised(NoHouse, one_more, *good, thing).thing, thing)
            self.assertIs(raised(BadNumber, near_house, *good, thing).thing, thing)
            self.assertEqual(raised(BadRound, walk_length, star(), ONES, ["a", thing]).index, 1)
        self.assertEqual(naive_ledger(star(), ROUND), tuple(LEDGER.values()))


if __name__ == "__main__":
    unittest.main()
