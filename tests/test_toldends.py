"""[121] to [123]: ends told, returns, the greatest ones beneath caps, the fewest ones."""

import unittest
from itertools import product

from letterround.errors import BadCaps, BadReturns, BadTold, NoHouse, NoPath
from letterround.flows import errands_by, flows_of, flows_paper
from letterround.toldends import fewest_returns, flows_with, greatest_returns, more_one_way
from letterround.villages import Village
from letterround.ways import beyond
from tests.helpers import HOUSES, LEDGER, VILLAGES, any_objects, bad_tables, lone, raised, star, tree, two
from tests.test_flows import MOST, all_flows, bad_pairs, flows_as, steps_there

TOLD = {"a": (1, 0), "b": (0, 0), "c": (0, 1), "d": (0, 0)}
ONES = {path: 1 for path in LEDGER}
NONE = {path: 0 for path in LEDGER}


def long():
    return Village(list("abcde"), [("a", "b"), ("b", "c"), ("c", "d"), ("d", "e")])


def all_told(village, most):
    """All told ends of a village of so many runs at most."""
    houses = village.houses()
    rows = [row for row in product(range(most + 1), repeat=len(houses)) if sum(row) <= most]
    for begins in rows:
        for ends in rows:
            if sum(begins) == sum(ends):
                yield dict(zip(houses, zip(begins, ends)))


def returns_there(make, most):
    """The dict from the numbers of told ends to all numbers of returns of some runs with these, gone through."""
    village = make()
    told = {}
    for numbers in all_flows(make, most):
        by_step = dict(zip(steps_there(village), numbers[0]))
        row = tuple(min(by_step[(one, other)], by_step[(other, one)]) for one, other in village.paths())
        told.setdefault(numbers[1], set()).add(row)
    return told


def cases():
    """Triples: a village, told ends, the set of the rows of returns of all runs with these."""
    for make, most in ((star, 3), (two, 5), (lone, 2), (tree, 2), (VILLAGES[3], 3)):
        there = returns_there(make, most)
        for told in all_told(make(), most):
            yield make(), told, there.get(tuple(told.values()), set())


def are_beneath(one, other):
    return all(x <= y for x, y in zip(one, other))


class Flows(unittest.TestCase):
    def test_differences_and_flows_by_returns(self):
        for make in VILLAGES:
            village = make()
            for numbers in all_flows(make, MOST[make.__name__]):
                by_step, told = flows_as(village, numbers)
                returns = {}
                for one, other in village.paths():
                    more = by_step[(one, other)] - by_step[(other, one)]
                    self.assertEqual(more_one_way(village, told, one, other), more)
                    self.assertEqual(more_one_way(village, told, other, one), -more)
                    returns[(one, other)] = min(by_step[(one, other)], by_step[(other, one)])
                found = flows_with(village, told, returns)
                self.assertEqual(found, (by_step, told))
                self.assertEqual((list(found[0]), list(found[1])), (steps_there(village), village.houses()))

    def test_differences_are_begins_less_ends(self):
        for village, told, _ in cases():
            for house, other in steps_there(village):
                here = [told[far] for far in village.houses() if far not in beyond(village, house, other)]
                self.assertEqual(more_one_way(village, told, house, other), sum(x - y for x, y in here))

    def test_flows_that_are_no_runs(self):
        told = {"a": (2, 2), "b": (0, 0), "c": (0, 0), "d": (0, 0)}
        flows = flows_with(star(), told, ONES)
        self.assertEqual(flows_paper(star(), flows), ("a", "ends"))
        self.assertIsNone(errands_by(star(), flows))
        self.assertEqual(flows_with(star(), TOLD, NONE)[0], flows_of(star(), [("a", "c")])[0])
        self.assertEqual(flows_with(star(), TOLD, {**ONES, ("a", "b"): 9})[0][("a", "b")], 10)
        self.assertEqual(flows_with(lone(), {"x": (3, 3)}, {}), ({}, {"x": (3, 3)}))


class Returns(unittest.TestCase):
    def test_greatest_returns_beneath_all_caps(self):
        for village, told, there in cases():
            self.assertEqual(greatest_returns(village, told, dict.fromkeys(village.paths(), 9)) is not None, bool(there))
            for caps in product(range(3 if len(village) > 2 else 5), repeat=len(village.paths())):
                beneath = [row for row in there if are_beneath(row, caps)]
                found = greatest_returns(village, told, dict(zip(village.paths(), caps)))
                if not beneath:
                    self.assertIsNone(found)
                    continue
                most = tuple(map(max, zip(*beneath)))
                self.assertIn(most, beneath)
                self.assertEqual(list(found.items()), list(zip(village.paths(), most)))

    def test_greater_of_two(self):
        for _, _, there in cases():
            for one in list(there)[:6]:
                for other in list(there)[-6:]:
                    self.assertIn(tuple(map(max, zip(one, other))), there)

    def test_fewest_returns_of_all(self):
        for village, told, there in cases():
            fewest = [row for row in sorted(there) if not any(are_beneath(other, row) for other in there if other != row)]
            found = fewest_returns(village, told)
            self.assertEqual([list(returns.items()) for returns in found], [list(zip(village.paths(), row)) for row in fewest])

    def test_examples_and_edges(self):
        self.assertEqual(more_one_way(star(), TOLD, "b", "c"), 1)
        self.assertEqual((more_one_way(star(), TOLD, "c", "b"), more_one_way(star(), TOLD, "b", "d")), (-1, 0))
        self.assertEqual((greatest_returns(star(), TOLD, ONES), fewest_returns(star(), TOLD)), (NONE, [NONE]))
        nobody = dict.fromkeys(HOUSES, (0, 0))
        self.assertEqual((greatest_returns(star(), nobody, ONES), fewest_returns(star(), nobody)), (NONE, [NONE]))
        self.assertEqual((greatest_returns(lone(), {"x": (0, 0)}, {}), fewest_returns(lone(), {"x": (0, 0)})), ({}, [{}]))
        self.assertEqual((greatest_returns(lone(), {"x": (1, 1)}, {}), fewest_returns(lone(), {"x": (1, 1)})), (None, []))
        both = {"a": (1, 1), "b": (0, 0), "c": (1, 1), "d": (1, 1)}
        self.assertEqual(greatest_returns(star(), both, {path: 100 for path in LEDGER}), ONES)
        self.assertIsNone(greatest_returns(star(), both, {**ONES, ("b", "c"): 0}))
        self.assertEqual(fewest_returns(star(), both), [ONES])
        ends = {"a": (1, 1), "b": (1, 1), "c": (1, 1), "d": (1, 1)}
        self.assertEqual(greatest_returns(star(), ends, {**ONES, ("a", "b"): 5}), ONES)
        two_ways = {"a": (1, 1), "b": (2, 2), "c": (1, 1), "d": (0, 0)}
        self.assertEqual(fewest_returns(star(), two_ways), [{**NONE, ("a", "b"): 1, ("b", "c"): 1}])

    def test_more_than_one_fewest(self):
        village = long()
        told = {"a": (0, 1), "b": (1, 0), "c": (1, 1), "d": (1, 0), "e": (0, 1)}
        none = {path: 0 for path in village.paths()}
        self.assertEqual(fewest_returns(village, told), [{**none, ("c", "d"): 1}, {**none, ("b", "c"): 1}])
        there = returns_there(long, 3)
        self.assertEqual(there[tuple(told.values())], {(0, 0, 1, 0), (0, 1, 0, 0), (0, 1, 1, 0)})
        many = 0
        for numbers, rows in there.items():
            told = dict(zip(village.houses(), numbers))
            fewest = [row for row in sorted(rows) if not any(are_beneath(other, row) for other in rows if other != row)]
            found = [tuple(returns.values()) for returns in fewest_returns(village, told)]
            self.assertEqual(found, fewest)
            many += len(found) > 1
        self.assertGreater(many, 3)

    def test_wrong(self):
        bad = any_objects() + bad_pairs(TOLD) + [{**TOLD, "a": (2, 0)}, {**TOLD, "b": (0, 1)}]
        for function, rest in ((more_one_way, 2), (flows_with, 1), (greatest_returns, 1), (fewest_returns, 0)):
            for thing in bad:
                self.assertIs(raised(BadTold, function, star(), thing, *[None] * rest).thing, thing)
        for thing in any_objects() + bad_tables(ONES):
            self.assertIs(raised(BadReturns, flows_with, star(), TOLD, thing).thing, thing)
            self.assertIs(raised(BadCaps, greatest_returns, star(), TOLD, thing).thing, thing)
        for thing in any_objects():
            self.assertIs(raised(NoHouse, more_one_way, star(), TOLD, thing, None).thing, thing)
            self.assertIs(raised(NoHouse, more_one_way, star(), TOLD, "a", thing).thing, thing)
        for pair in (("a", "c"), ("b", "b")):
            found = raised(NoPath, more_one_way, star(), TOLD, *pair)
            self.assertEqual((found.one, found.other), pair)


if __name__ == "__main__":
    unittest.main()
