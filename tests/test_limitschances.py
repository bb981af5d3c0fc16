"""[114], [124], [134], the head of section 17: weaves, spans, flows, chances, hamlets and texts at the limits."""

import unittest
from fractions import Fraction
from random import Random

from letterround.counting import count_rounds
from letterround.crossings import count_with_crossings, crossings_of, mean_runs, runs_between
from letterround.errands import errands_fault
from letterround.exchanges import exchange_distance, exchange_row, exchanges
from letterround.flows import errands_by, flows_of, flows_paper
from letterround.hamlets import Hamlet
from letterround.hamlettexts import read_hamlet, write_hamlet
from letterround.joinchances import end_chances, joined_chances, mean_paths, run_chances
from letterround.letters import letters_of
from letterround.numbering import round_at
from letterround.roundchances import (drawn_round, first_chances, ledger_chance, mean_passes, mean_walk, next_chances,
                                      path_chances, some_chance, walk_chance)
from letterround.rounds import ledger_of
from letterround.spans import (branch_numbers, end_span, fewest_possible, is_possible, most_possible, path_span,
                               possible_counts)
from letterround.stepsalone import few_ends, fewest_by_steps, most_by_steps
from letterround.toldends import fewest_returns, flows_with, greatest_returns, more_one_way
from letterround.villages import Village, beside
from letterround.weaves import count_weaves, is_weave, weave_at, weave_number
from tests.helpers import great_village, long_row

KINDS = ("chain", "star", "tree")


class Woven(unittest.TestCase):
    def test_crossings_and_exchanges_with_numbers_to_twelve(self):
        for kind in KINDS:
            village = great_village(12, kind)
            counts = (dict.fromkeys(village.paths(), 12), dict.fromkeys(village.houses(), 12))
            weave = weave_at(village, counts, count_weaves(village, counts) // 3)
            crossings = crossings_of(village, counts, weave)
            self.assertGreater(count_with_crossings(village, counts, crossings), 0)
            told = exchanges(village, counts, weave)
            numbers = [weave_number(village, counts, other) for other in told[::300]]
            self.assertEqual(numbers, sorted(numbers))
            self.assertIs(is_weave(village, counts, told[-1]), True)

    def test_runs_with_numbers_to_sixty(self):
        village = great_village(8, "chain")
        counts = (dict.fromkeys(village.paths(), 60), {house: 60 if len(beside(village, house)) < 2 else 0 for house in village.houses()})
        counts[1]["h4"] = 60
        self.assertTrue(700 < len(str(count_weaves(village, counts))) < 801)
        self.assertEqual(mean_runs(village, counts, "h0", "h4"), (30, 1))
        self.assertGreater(runs_between(village, counts, "h0", "h7"), 0)
        for number, mean in ((59, (59, 3)), (60, (20, 1))):
            star = great_village(4, "star")
            counts = (dict.fromkeys(star.paths(), number), {house: number for house in star.houses()})
            self.assertEqual(mean_runs(star, counts, "h0", "h3"), mean)

    def test_rows_with_eight_members_at_each_house(self):
        for kind in ("chain", "tree"):
            village = great_village(12, kind)
            counts = (dict.fromkeys(village.paths(), 2), {})
            for house in village.houses():
                counts[1][house] = 8 - 2 * len(beside(village, house)) if len(beside(village, house)) > 1 else 2
            self.assertIsNone(errands_fault(village, counts))
            many = count_weaves(village, counts)
            one, other = weave_at(village, counts, 0), weave_at(village, counts, many - 1)
            row = exchange_row(village, counts, one, other)
            self.assertEqual((row[0], row[-1], len(row)), (one, other, exchange_distance(village, counts, one, other) + 1))


class Spans(unittest.TestCase):
    def test_forty_houses_with_numbers_to_a_hundred(self):
        for kind in KINDS:
            village = great_village(40, kind)
            spans = ({path: (place % 3, 100 - place % 5) for place, path in enumerate(village.paths())},
                     {house: (place % 2, 100 - place % 7) for place, house in enumerate(village.houses())})
            self.assertIs(is_possible(village, spans, possible_counts(village, spans)), True)
            for one, other in village.paths():
                self.assertIsNotNone(path_span(village, spans, one, other)[0])
                self.assertIsNotNone(branch_numbers(village, spans, one, other)[1])
            self.assertIsNotNone(end_span(village, spans, "h39")[0])

    def test_runs_of_twelve_houses_with_numbers_to_fifty(self):
        for kind in KINDS:
            village = great_village(12, kind)
            spans = (dict.fromkeys(village.paths(), (0, 50)), dict.fromkeys(village.houses(), (1, 50)))
            self.assertEqual((fewest_possible(village, spans), most_possible(village, spans)), (6, 300))
            spans = (dict.fromkeys(village.paths(), (3, 50)), {house: (0, 50 - place) for place, house in enumerate(village.houses())})
            self.assertLess(fewest_possible(village, spans), most_possible(village, spans))


class Flows(unittest.TestCase):
    def test_flows_of_forty_houses(self):
        for kind in KINDS:
            village = great_village(40, kind)
            row = long_row(240, village)
            errands = [run for run in zip(row, row[1:]) if run[0] != run[1]][:200]
            flows = flows_of(village, errands)
            self.assertEqual(flows_of(village, errands_by(village, flows)), flows)
            steps = {pair: 100 - place % 9 for place, pair in
                     enumerate(sorted(pair for path in village.paths() for pair in (path, path[::-1])))}
            ends = few_ends(village, steps)
            self.assertEqual(len(errands_by(village, (steps, ends))), fewest_by_steps(village, steps))
            self.assertEqual(most_by_steps(village, steps), sum(steps.values()))

    def test_ends_told_of_forty_houses(self):
        for kind in KINDS:
            village = great_village(40, kind)
            random = Random(2)
            begins = [random.randrange(60) for _ in range(40)]
            ends = begins[7:] + begins[:7]
            told = dict(zip(village.houses(), zip(begins, ends)))
            returns = greatest_returns(village, told, dict.fromkeys(village.paths(), 100))
            self.assertIsNone(flows_paper(village, flows_with(village, told, returns)))
            for one, other in village.paths():
                self.assertEqual(more_one_way(village, told, one, other), -more_one_way(village, told, other, one))

    def test_fewest_returns_of_five_houses(self):
        for kind in KINDS:
            village = great_village(5, kind)
            for row in (["h0", "h1", "h2", "h3"], ["h4", "h4", "h0", "h0"]):
                for further in (["h1", "h0", "h3", "h4"], ["h0", "h4", "h4", "h0"]):
                    told = {house: (row.count(house), further.count(house)) for house in village.houses()}
                    for returns in fewest_returns(village, told):
                        self.assertIsNone(flows_paper(village, flows_with(village, told, returns)))


class Chances(unittest.TestCase):
    def test_twenty_letters_in_twelve_houses(self):
        for kind in KINDS:
            village = great_village(12, kind)
            for row in (long_row(20, village), (village.houses() * 2)[:20], village.houses()[:5] * 4):
                letters, ledger = letters_of(village, row), ledger_of(village, row)
                lengths = {path: place % 3 for place, path in enumerate(village.paths())}
                shortest, longest = walk_chance(village, letters, lengths)
                self.assertTrue(0 < Fraction(*shortest) <= 1 and 0 < Fraction(*longest) <= 1)
                means = mean_passes(village, letters)
                self.assertEqual(Fraction(*mean_walk(village, letters, lengths)),
                                 sum(2 * lengths[path] * Fraction(*means[path]) for path in means))
                for path in means:
                    told = path_chances(village, letters, *path)
                    self.assertEqual(sum(Fraction(*chance) for chance in told.values()), 1)
                    self.assertEqual(sum(times * Fraction(*told[times]) for times in told), Fraction(*means[path]))
                self.assertGreater(ledger_chance(village, letters, ledger)[0], 0)
                many = count_rounds(village, letters, ledger)
                self.assertEqual(drawn_round(village, letters, ledger, lambda whole: whole // 2),
                                 round_at(village, letters, ledger, many // 2))
                self.check_begun(village, letters, ledger, row)

    def check_begun(self, village, letters, ledger, row):
        chance = Fraction(1)
        for place, house in enumerate(row):
            told = next_chances(village, letters, ledger, row[:place])
            self.assertEqual(sum(Fraction(*part) for part in told.values()), 1)
            chance *= Fraction(*told[house])
        self.assertEqual(chance, Fraction(1, count_rounds(village, letters, ledger)))
        self.assertEqual(first_chances(village, letters, ledger)[row[0]], next_chances(village, letters, ledger, [])[row[0]])

    def test_some_numbers_of_eight_houses(self):
        for kind in KINDS:
            village = great_village(8, kind)
            letters = letters_of(village, long_row(12, village))
            paths = village.paths()
            whole = sum(Fraction(*some_chance(village, letters, {paths[0]: number, paths[-1]: 1})) for number in range(7))
            self.assertEqual(whole, Fraction(*some_chance(village, letters, {paths[-1]: 1})))
            ledger = ledger_of(village, long_row(12, village))
            self.assertEqual(some_chance(village, letters, ledger), ledger_chance(village, letters, ledger))

    def test_thirty_passes_and_ends_in_twenty_houses(self):
        for kind, number, middle in (("chain", 10, 10), ("star", 1, 11), ("tree", 6, 6), ("chain", 15, 0), ("star", 1, 1)):
            village = great_village(20, kind)
            counts = (dict.fromkeys(village.paths(), number), {house: number if len(beside(village, house)) < 2 else middle
                                                               for house in village.houses()})
            self.assertIsNone(errands_fault(village, counts))
            told = run_chances(village, counts, "h0", "h19")
            self.assertEqual(sum(Fraction(*chance) for chance in told.values()), 1)
            ends = end_chances(village, counts, "h19")
            self.assertEqual(sum(Fraction(*chance) for chance in ends.values()), 1)
            self.assertEqual(sum(many * Fraction(*told[many]) for many in told), number * Fraction(*ends["h0"]))
            self.assertGreaterEqual(Fraction(*mean_paths(village, counts, "h19")), 1)
            for house in village.houses():
                near = beside(village, house)
                joined = joined_chances(village, counts, house, near[0], near[-1] if len(near) > 1 else house)
                self.assertEqual(sum(Fraction(*chance) for chance in joined.values()), 1)


class Hamlets(unittest.TestCase):
    def test_sixty_deeds_in_ten_houses_with_eight_questions(self):
        for kind in KINDS:
            hamlet = Hamlet("h0")
            village = great_village(10, kind)
            for name in village.houses()[1:]:
                hamlet.do(("build", name, [house for house in beside(village, name) if house < name][0]))
            questions = [("can",), ("paper",), ("parting",), ("rounds",), ("errands",), ("first", "h3"), ("beyond", "h0", "h1"),
                         ("spare", "h0", "h1")]
            for question in questions:
                hamlet.do(("watch", question))
            hamlet.do(("out", "h3"))
            for house in long_row(39, village):
                hamlet.do(("bring", house))
            self.assertEqual(sum(hamlet.letters().values()), 40)
            hamlet.do(("home",))
            hamlet.do(("hold", ("can",)))
            self.assertGreater(hamlet.answer(("rounds",)), 0)
            self.assertEqual((hamlet.count(), hamlet.answer(("first", "h3"))), (59, True))
            self.assertEqual(read_hamlet(write_hamlet(hamlet)), hamlet)
            kept = hamlet.copy()
            self.assertEqual(hamlet.trial(lambda same: self.within(same, 6)), 0)
            self.assertEqual((hamlet, hamlet.deeds()), (kept, kept.deeds()))
            for number in (0, 17, 59):
                self.assertEqual(hamlet.at(number).deeds(), kept.deeds()[:number])
            while hamlet.undo():
                self.assertIsNotNone(hamlet.watched())
            while hamlet.again():
                pass
            self.assertEqual(hamlet, kept)

    def within(self, hamlet, depth):
        hamlet.do(("write", "h3", 1))
        if depth == 1:
            while hamlet.undo():
                pass
            return hamlet.count()
        return hamlet.trial(lambda same: self.within(same, depth - 1))

    def test_books_with_sixty(self):
        hamlet = Hamlet("b")
        for name in "acdefghij":
            hamlet.do(("build", name, "b"))
        hamlet.do(("watch", ("rounds",)))
        for name in "ac":
            hamlet.do(("write", name, 20))
        for name in "ac":
            hamlet.do(("enter", name, "b", 60))
        self.assertEqual(hamlet.mending_paths(), [])
        hamlet.do(("strike", "a", "b", 40))
        hamlet.do(("strike", "c", "b", 41))
        self.assertEqual((hamlet.answer(("paper",)), hamlet.mending_paths()), ("much", [("b", "c")]))

    def test_texts_of_eight_thousand_signs(self):
        houses = ["h" + str(1000 + place) for place in range(240)]
        rows = [f"house {house} 7" for house in houses]
        rows += [f"path {one} {other} 3" for one, other in zip(houses, houses[1:])]
        text = "".join(row + "\n" for row in rows)
        self.assertTrue(7000 < len(text) < 8100)
        self.assertEqual(write_hamlet(read_hamlet(text)), text)
        village = Village(list("abcdefghij"), [("a", other) for other in "bcdefghij"])
        watched = "".join(f"watch {word} {one} {other}\n" for one, other in village.paths() for word in ("spare", "beyond"))
        text = "".join([f"house {house} 6\n" for house in village.houses()] + [f"path {one} {other} 6\n" for one, other in village.paths()])
        hamlet = read_hamlet(text + watched + "hold rounds\n")
        self.assertEqual((sum(hamlet.letters().values()), len(hamlet.watched())), (60, 19))
        self.assertEqual(write_hamlet(hamlet), text + watched + "hold rounds\n")


if __name__ == "__main__":
    unittest.main()
