"""[118] to [120], [123]: runs with a direction, which flows are some errands', steps alone, flows and counts."""

import unittest
from functools import lru_cache
from itertools import combinations_with_replacement, product
from random import Random

from letterround.errands import errands_fault
from letterround.errors import BadFlows, BadRuns, BadSteps
from letterround.flows import errands_by, flows_of, flows_paper
from letterround.lacks import lacks
from letterround.runs import counts_of, is_errands
from letterround.stepsalone import few_ends, fewest_by_steps, most_by_steps
from letterround.villages import Village, beside
from tests.helpers import HOUSES, VILLAGES, all_ledgers, any_objects, bad_tables, lone, naive_ways, raised, star, two

SIX = Village(list("abcdef"), [("a", "b"), ("b", "c"), ("b", "d"), ("d", "e"), ("d", "f")])
STEPS = [(one, other) for one in HOUSES for other in HOUSES if "b" in (one, other) and one != other]
ERRANDS = [("a", "c"), ("d", "a"), ("c", "a")]
FLOWS = ({("a", "b"): 1, ("b", "a"): 2, ("b", "c"): 1, ("b", "d"): 0, ("c", "b"): 1, ("d", "b"): 1},
         {"a": (1, 2), "b": (0, 0), "c": (1, 1), "d": (1, 0)})


def steps_there(village):
    return sorted([pair for path in village.paths() for pair in (path, path[::-1])])


def naive_flows(village, errands):
    """The pair of the numbers of all steps, and of all begins and ends, gone step by step."""
    ways = naive_ways(village)
    gone = [step for run in errands for step in zip(ways[run], ways[run][1:])]
    by_step = tuple(gone.count(step) for step in steps_there(village))
    firsts, lasts = [run[0] for run in errands], [run[1] for run in errands]
    return by_step, tuple((firsts.count(house), lasts.count(house)) for house in village.houses())


@lru_cache(maxsize=None)
def all_flows(make, most):
    """The dict from the numbers of flows to errands with these, so many runs at most, all gone through."""
    village = make()
    told = {}
    runs = [(one, other) for one in village.houses() for other in village.houses() if one != other]
    for many in range(most + 1):
        for errands in combinations_with_replacement(runs, many):
            told.setdefault(naive_flows(village, errands), errands)
    return told


def flows_as(village, numbers):
    return dict(zip(steps_there(village), numbers[0])), dict(zip(village.houses(), numbers[1]))


def bad_pairs(good):
    """Dicts near to a good one from houses to pairs of numbers, none of them right."""
    told = []
    for house in good:
        told.append({other: good[other] for other in good if other != house})
        for pair in (1, None, "01", (), (0,), (0, 1, 2), (-1, 1), (0, -1), (0, None), (True, 1), (0, False), ("0", 1),
                     {0: 1, 1: 1}):
            told.append({**good, house: pair})
    return told + [{**good, "zz": (0, 0)}, {**good, 1: (0, 0)}, list(good), list(good.items()), tuple(good.values())]


MOST = {"star": 3, "lone": 3, "two": 7, "chain": 3, "tree": 2}


class Flows(unittest.TestCase):
    def test_flows_of_all_small_errands(self):
        for make in VILLAGES:
            village = make()
            for numbers, errands in all_flows(make, MOST[make.__name__]).items():
                told = flows_of(village, list(errands))
                self.assertEqual(told, flows_as(village, numbers))
                self.assertEqual((list(told[0]), list(told[1])), (steps_there(village), village.houses()))
                self.check_built(village, told)

    def check_built(self, village, flows):
        self.assertIsNone(flows_paper(village, flows))
        errands = errands_by(village, flows)
        self.assertIs(is_errands(village, errands), True)
        self.assertEqual({run.__class__ for run in errands} | {tuple}, {tuple})
        self.assertEqual(flows_of(village, errands), flows)

    def test_just_one_errands_or_a_paper(self):
        for make, top in ((star, 1), (two, 3)):
            village = make()
            there = all_flows(make, 4 if make is star else 7)
            steps = steps_there(village)
            most = 4 if make is star else 7
            for by_step in product(range(top + 1), repeat=len(steps)):
                for begins in product(range(2 if make is star else 4), repeat=len(village)):
                    # The ends of which coming and going are as many, and some near to them.
                    coming = [sum(by_step[place] for place, step in enumerate(steps) if step[1] == house)
                              for house in village.houses()]
                    going = [sum(by_step[place] for place, step in enumerate(steps) if step[0] == house)
                             for house in village.houses()]
                    ends = [max(0, x + y - z) for x, y, z in zip(coming, begins, going)]
                    if sum(begins) <= most:
                        numbers = (by_step, tuple(zip(begins, ends)))
                        self.check(village, numbers, numbers in there)

    def check(self, village, numbers, there):
        flows = flows_as(village, numbers)
        paper = flows_paper(village, flows)
        self.assertEqual(paper, self.naive_paper(village, *flows))
        self.assertEqual(paper is None, there)
        if there:
            self.check_built(village, flows)
        else:
            self.assertIsNone(errands_by(village, flows))

    def naive_paper(self, village, by_step, by_house):
        for house in village.houses():
            coming = sum(by_step[(other, house)] for other in beside(village, house)) + by_house[house][0]
            going = sum(by_step[(house, other)] for other in beside(village, house)) + by_house[house][1]
            if coming != going:
                return house, "uneven"
            if sum(by_house[house]) > coming:
                return house, "ends"
            for other in beside(village, house):
                if by_step[(house, other)] + by_step[(other, house)] > coming:
                    return house, other
        return None

    def test_papers_of_flows_near_to_some(self):
        random = Random(3)
        for make in VILLAGES:
            village = make()
            for numbers in list(all_flows(make, MOST[make.__name__]))[::7]:
                flows = flows_as(village, numbers)
                for _ in range(3):
                    near = ({step: max(0, flows[0][step] + random.choice([-1, 0, 0, 1])) for step in flows[0]},
                            {house: tuple(max(0, x + random.choice([-1, 0, 0, 1])) for x in flows[1][house]) for house in flows[1]})
                    paper = flows_paper(village, near)
                    self.assertEqual(paper, self.naive_paper(village, *near))
                    if paper is None:
                        self.check_built(village, near)

    def test_greater_flows_with_narrow_houses(self):
        random = Random(5)
        runs = [(one, other) for one in SIX.houses() for other in SIX.houses() if one != other]
        for _ in range(300):
            chosen = random.sample(runs, 4)
            errands = [random.choice(chosen) for _ in range(random.randrange(40))]
            self.check_built(SIX, flows_of(SIX, errands))

    def test_examples_and_edges(self):
        self.assertEqual(flows_of(star(), ERRANDS), FLOWS)
        self.assertEqual(sorted(errands_by(star(), FLOWS)), sorted(ERRANDS))
        nothing = (dict.fromkeys(STEPS, 0), dict.fromkeys(HOUSES, (0, 0)))
        self.assertEqual((flows_of(star(), []), errands_by(star(), nothing), flows_paper(star(), nothing)), (nothing, [], None))
        self.assertEqual((flows_of(lone(), []), errands_by(lone(), ({}, {"x": (0, 0)}))), (({}, {"x": (0, 0)}), []))
        self.assertEqual(flows_paper(lone(), ({}, {"x": (2, 2)})), ("x", "ends"))
        self.assertEqual(flows_paper(lone(), ({}, {"x": (2, 1)})), ("x", "uneven"))
        # At a uneven is so beside ends: the first word of the first house is told.
        self.assertIsNone(flows_paper(star(), (FLOWS[0], {**FLOWS[1], "b": (3, 3)})))
        self.assertEqual(flows_paper(star(), (FLOWS[0], {**FLOWS[1], "b": (4, 4)})), ("b", "ends"))
        self.assertEqual(flows_paper(star(), (FLOWS[0], {**FLOWS[1], "a": (9, 2)})), ("a", "uneven"))
        both = {**FLOWS[0], ("b", "c"): 4, ("c", "b"): 4}
        self.assertEqual(flows_paper(star(), (both, {**FLOWS[1], "c": (4, 4)})), ("b", "c"))
        self.assertEqual(flows_paper(star(), (both, {**FLOWS[1], "c": (1, 1)})), ("b", "c"))
        turned = {**dict.fromkeys(STEPS, 0), ("a", "b"): 1, ("b", "a"): 1}
        self.assertEqual(flows_paper(star(), (turned, dict.fromkeys(HOUSES, (0, 0)))), ("a", "b"))
        self.assertEqual(flows_paper(star(), (turned, {**nothing[1], "a": (1, 1)})), ("b", "a"))
        self.assertEqual(errands_by(two(), ({("a", "x"): 2, ("x", "a"): 1}, {"a": (2, 1), "x": (1, 2)})),
                         [("a", "x")] * 2 + [("x", "a")])

    def test_wrong(self):
        bad = any_objects() + [FLOWS[0], FLOWS[::-1], (*FLOWS, 1), FLOWS[:1], {0: FLOWS[0], 1: FLOWS[1]}]
        tables = [table for table in bad_tables(FLOWS[0]) if table != FLOWS[0]] + [{**FLOWS[0], ("a", "c"): 0}]
        bad += [(table, FLOWS[1]) for table in tables] + [(FLOWS[0], table) for table in bad_pairs(FLOWS[1])]
        for thing in bad:
            self.assertIs(raised(BadFlows, flows_paper, star(), thing).thing, thing)
            self.assertIs(raised(BadFlows, errands_by, star(), thing).thing, thing)
        for thing in any_objects():
            self.assertEqual(raised(BadRuns, flows_of, star(), [("a", "c"), thing, thing]).index, 1)
        for thing in (None, True, 1, "a", {}, star()):
            self.assertEqual(raised(BadRuns, flows_of, star(), thing).index, 0)
        self.assertEqual(raised(BadRuns, flows_of, star(), [("a", "c"), ("a", "a")]).index, 1)

    def test_fact_flows_and_counts(self):
        for make in VILLAGES:
            village = make()
            for errands in all_flows(make, MOST[make.__name__]).values():
                by_step, by_house = flows_of(village, errands)
                by_path = {(one, other): by_step[(one, other)] + by_step[(other, one)] for one, other in village.paths()}
                counts = (by_path, {house: sum(by_house[house]) for house in by_house})
                self.assertEqual(counts, counts_of(village, errands))
                self.assertIsNone(errands_fault(village, counts))


class Steps(unittest.TestCase):
    def test_fewest_and_most_runs_of_all_small_steps(self):
        for make, most, top in ((star, 4, 4), (two, 7, 6), (lone, 2, 2)):
            village = make()
            by_step = {}
            for numbers in all_flows(make, most):
                by_step.setdefault(numbers[0], []).append(numbers[1])
            for numbers, ends in by_step.items():
                if sum(numbers) > top:
                    continue
                steps = dict(zip(steps_there(village), numbers))
                runs = {sum(begins for begins, last in row) for row in ends}
                self.assertEqual(runs, set(range(fewest_by_steps(village, steps), most_by_steps(village, steps) + 1)))
                told = few_ends(village, steps)
                few = [row for row in ends if sum(begins for begins, last in row) == min(runs)]
                self.assertEqual([tuple(told.values())], few)
                self.assertEqual(list(told), village.houses())
                self.assertIsNone(flows_paper(village, (steps, told)))

    def test_there_are_always_some_and_what_they_are(self):
        random = Random(7)
        for village in [make() for make in VILLAGES] + [SIX]:
            for _ in range(40):
                steps = {step: random.choice([0, 0, 1, 2, 5, 9]) for step in steps_there(village)}
                told = few_ends(village, steps)
                self.assertIsNone(flows_paper(village, (steps, told)))
                self.assertEqual(len(errands_by(village, (steps, told))), fewest_by_steps(village, steps))
                for house in village.houses():
                    near = beside(village, house)
                    coming = sum(steps[(other, house)] for other in near)
                    going = sum(steps[(house, other)] for other in near)
                    both = [steps[(house, other)] + steps[(other, house)] for other in near]
                    self.assertEqual(coming + told[house][0], max([coming, going] + both))
                    self.assertEqual(going + told[house][1], max([coming, going] + both))

    def test_examples_and_edges(self):
        none = dict.fromkeys(STEPS, 0)
        steps = {**none, ("a", "b"): 1, ("b", "c"): 1}
        self.assertEqual((fewest_by_steps(star(), steps), most_by_steps(star(), steps)), (1, 2))
        steps = {**none, ("a", "b"): 1, ("b", "a"): 1}
        self.assertEqual((fewest_by_steps(star(), steps), few_ends(star(), steps)),
                         (2, {"a": (1, 1), "b": (1, 1), "c": (0, 0), "d": (0, 0)}))
        self.assertEqual((fewest_by_steps(star(), none), most_by_steps(star(), none)), (0, 0))
        self.assertEqual(few_ends(star(), none), dict.fromkeys(HOUSES, (0, 0)))
        self.assertEqual((fewest_by_steps(lone(), {}), few_ends(lone(), {})), (0, {"x": (0, 0)}))

    def test_fact_of_ledgers_both_ways(self):
        for make in VILLAGES:
            village = make()
            for ledger in all_ledgers(village, 3 if len(village) < 5 else 2):
                steps = {}
                for one, other in village.paths():
                    steps[(one, other)] = steps[(other, one)] = ledger[(one, other)]
                self.assertEqual(fewest_by_steps(village, steps), sum(lacks(village, ledger).values()))

    def test_wrong(self):
        good = dict.fromkeys(STEPS, 1)
        bad = any_objects() + [table for table in bad_tables(good) if table != good] + [{**good, ("a", "c"): 0}]
        for thing in bad:
            for function in (fewest_by_steps, most_by_steps, few_ends):
                self.assertIs(raised(BadSteps, function, star(), thing).thing, thing)


if __name__ == "__main__":
    unittest.main()
