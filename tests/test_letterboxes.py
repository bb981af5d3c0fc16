"""[63] to [67]: boxes of letters and ledgers not known, sides, papers, pairs, spans, letters in all."""

import unittest
from functools import lru_cache
from itertools import product

from letterround.errors import BadBox, NoHouse, NoPath, NotPossible
from letterround.inall import letters_between
from letterround.letterboxes import gone_span, house_span, is_in, letterbox_paper, sides, some_pair
from letterround.villages import Village, beside
from letterround.ways import beyond
from tests.helpers import (HOUSES, LEDGER, LETTERS, VILLAGES, any_objects, bad_spans, lone, naive_ways, raised,
                           rounds_by_ledger, star, two)

ONE_EACH = {house: (0, 1) for house in HOUSES}
TWOS = {path: (0, 2) for path in LEDGER}
EXAMPLE = (ONE_EACH, {**TWOS, ("a", "b"): (2, 2)})
NO_HULL = (ONE_EACH, TWOS)


@lru_cache(maxsize=None)
def pairs_there(make, most):
    """All pairs of letters, so many at each house at most, and a ledger of a round with these."""
    village = make()
    told = []
    for numbers in product(range(most + 1), repeat=len(village)):
        letters = dict(zip(village.houses(), numbers))
        if sum(numbers) > 0:
            for gone in rounds_by_ledger(village, letters):
                told.append((letters, dict(zip(village.paths(), gone))))
    return told


def some_boxes(village, most):
    """Boxes of many kinds: with and without wants, some that let nothing."""
    for kind in range(60):
        told = []
        for keys, top in ((village.houses(), most), (village.paths(), 3)):
            spans = {}
            for place, key in enumerate(keys):
                mixed = (kind * 7 + place * 5 + kind * place * 3 + len(keys)) % 23
                least = (0, 1, 0, 0, 2, 0, 0)[mixed % 7] if kind % 4 else (mixed == 5)
                spans[key] = (min(int(least), top), min(int(least) + (2, 0, 1, 3)[mixed % 4], top))
            told.append(spans)
        yield tuple(told)


def cases():
    """Triples: a small village, a box, all pairs in it, gone through one by one."""
    for make in VILLAGES:
        village = make()
        most = 1 if len(village) > 4 else 2
        for box in some_boxes(village, most):
            yield village, box, [pair for pair in pairs_there(make, most) if in_box(box, pair)]


def in_box(box, pair):
    return all(spans[key][0] <= numbers[key] <= spans[key][1]
               for spans, numbers in zip(box, pair) for key in spans)


def naive_hull(village, box):
    """The pair of the hull's houses and paths, found from all ways."""
    wanted = [house for house in village.houses() if box[0][house][0] > 0]
    wanted += [house for path in village.paths() if box[1][path][0] > 0 for house in path]
    ways = [naive_ways(village)[(one, other)] for one in wanted for other in wanted]
    return ({house for way in ways for house in way},
            {tuple(sorted(step)) for way in ways for step in zip(way, way[1:])})


def naive_rooms(village, box):
    """The letters that each house has room for, as [63] says it."""
    hull = naive_hull(village, box)[0]
    told = {}
    for house in village.houses():
        ways = [naive_ways(village)[(house, far)] for far in hull]
        way = min(ways, key=len) if ways else [house]
        open_there = all(box[1][tuple(sorted(step))][1] > 0 for step in zip(way, way[1:]))
        told[house] = box[0][house][1] if open_there else 0
    return told


def naive_sides(village, box):
    """What [64] says, pair by pair."""
    rooms, hull = naive_rooms(village, box), naive_hull(village, box)[1]

    def high(house, other):
        further = [third for third in beside(village, other) if third != house]
        return min(box[1][tuple(sorted([house, other]))][1], rooms[other] + sum(high(other, far) for far in further))

    def low(house, other):
        path = tuple(sorted([house, other]))
        further = [third for third in beside(village, other) if third != house]
        told = [box[1][path][0], int(path in hull)]
        for third in further:
            told.append(low(other, third) - rooms[other] - sum(high(other, far) for far in further if far != third))
        return max(told)

    return {(house, other): (low(house, other), high(house, other))
            for house in village.houses() for other in beside(village, house)}


class Pairs(unittest.TestCase):
    def test_just_one_a_pair_or_a_paper(self):
        papers = set()
        for village, box, there in cases():
            paper, pair = letterbox_paper(village, box), some_pair(village, box)
            papers.add(paper and paper[0])
            self.assertEqual(paper is None, bool(there), box)
            if there:
                self.assertEqual(pair.__class__, tuple)
                self.assertEqual((list(pair[0]), list(pair[1])), (village.houses(), village.paths()))
                self.assertIs(is_in(village, box, pair), True)
                self.assertIn(pair[1], [ledger for letters, ledger in pairs_there_of(village, pair[0])])
                self.assertTrue(in_box(box, pair))
            else:
                self.assertIsNone(pair)
        self.assertEqual(papers, {None, "none", "shut", "much"})

    def test_papers_in_their_order(self):
        for village, box, there in cases():
            found = naive_sides(village, box)
            told = []
            if all(most == 0 for least, most in box[0].values()):
                told.append(("none",))
            told += [("shut", path) for path in sorted(naive_hull(village, box)[1]) if box[1][path][1] == 0]
            rooms = naive_rooms(village, box)
            for house, other in sorted(found):
                further = [third for third in beside(village, house) if third != other]
                if found[(house, other)][0] > rooms[house] + sum(found[(house, far)][1] for far in further):
                    told.append(("much", house, other))
            self.assertEqual(letterbox_paper(village, box), told[0] if told else None)

    def test_sides(self):
        for village, box, there in cases():
            told = sides(village, box)
            self.assertEqual(told, naive_sides(village, box))
            self.assertEqual(list(told), sorted(told))

    def test_what_is_beyond_lets_just_the_numbers_from_low_to_high(self):
        village = star()
        wide = {path: (0, 3) for path in LEDGER}
        for kind, box in enumerate(some_boxes(village, 2)):
            for house, other in (("b", "a"), ("b", "c"), ("a", "b"), ("d", "b")):
                path = tuple(sorted([house, other]))
                inner = beyond(village, house, other)
                if kind % 3 or box[1][path][0] == 0 or letterbox_paper(village, box) is not None:
                    continue
                # Let all else be open: what is left to tell is what lies beyond.
                by_house = {far: box[0][far] if far in inner else (0, 9) for far in HOUSES}
                by_path = {key: box[1][key] if set(key) & set(inner) else (0, 9) for key in wide}
                low, high = sides(village, (by_house, by_path))[(house, other)]
                self.assertEqual(gone_span(village, (by_house, by_path), path), (low, high))

    def test_is_in(self):
        self.assertIs(is_in(star(), ({house: (0, 2) for house in HOUSES}, TWOS), (LETTERS, LEDGER)), True)
        self.assertIs(is_in(star(), ({house: [0, 2] for house in HOUSES}, TWOS), [LETTERS, LEDGER]), True)
        wide = ({house: (0, 9) for house in HOUSES}, {path: (0, 9) for path in LEDGER})
        none = {path: 0 for path in LEDGER}
        for thing in any_objects() + [(LETTERS,), (LETTERS, LEDGER, 1), (LEDGER, LETTERS), {0: LETTERS, 1: LEDGER},
                                      (LETTERS, {**LEDGER, ("a", "b"): 3}), ({house: 0 for house in HOUSES}, none),
                                      (LETTERS, None), (None, LEDGER), ({**LETTERS, "a": True}, LEDGER),
                                      (LETTERS, {**LEDGER, ("b", "c"): True})]:
            self.assertIs(is_in(star(), wide, thing), False)
        self.assertIs(is_in(star(), NO_HULL, (LETTERS, LEDGER)), False)
        self.assertIs(is_in(star(), (wide[0], {**TWOS, ("a", "b"): (0, 1)}), (LETTERS, LEDGER)), False)
        self.assertIs(is_in(star(), (wide[0], {**TWOS, ("a", "b"): (3, 4)}), (LETTERS, LEDGER)), False)
        for village, box, there in cases():
            for pair in there[:3]:
                self.assertIs(is_in(village, box, pair), True)

    def test_examples_and_edges(self):
        self.assertEqual(sides(star(), EXAMPLE)[("a", "b")], (2, 2))
        self.assertEqual(sides(star(), EXAMPLE)[("b", "a")], (2, 1))
        self.assertEqual(letterbox_paper(star(), EXAMPLE), ("much", "a", "b"))
        self.assertIsNone(some_pair(star(), EXAMPLE))
        self.assertEqual(some_pair(lone(), ({"x": (3, 3)}, {})), ({"x": 3}, {}))
        self.assertEqual(sides(lone(), ({"x": (3, 3)}, {})), {})
        self.assertEqual(letterbox_paper(lone(), ({"x": (0, 0)}, {})), ("none",))
        shut = ({house: (0, 0) for house in HOUSES}, {**TWOS, ("a", "b"): (1, 1)})
        self.assertEqual(letterbox_paper(star(), shut), ("none",))
        far = ({**ONE_EACH, "a": (1, 1), "d": (1, 1)}, {**TWOS, ("b", "d"): (0, 0)})
        self.assertEqual(letterbox_paper(star(), far), ("shut", ("b", "d")))
        # What is not reached has no room: c's letter cannot be.
        alone = ({**ONE_EACH, "a": (1, 1)}, {**TWOS, ("b", "c"): (0, 0)})
        self.assertEqual(sides(star(), alone)[("b", "c")], (0, 0))
        self.assertEqual(some_pair(star(), alone)[0]["c"], 0)
        # Without a wanted house and a wanted path one letter is enough.
        letters, ledger = some_pair(star(), ({**ONE_EACH, "a": (0, 0)}, {path: (0, 0) for path in LEDGER}))
        self.assertEqual((sum(letters.values()), set(ledger.values())), (1, {0}))


def pairs_there_of(village, letters):
    """All pairs of these letters and a ledger of a round with them."""
    return [(letters, dict(zip(village.paths(), gone))) for gone in rounds_by_ledger(village, letters)]


class Spans(unittest.TestCase):
    def test_all_small_villages(self):
        seen = 0
        for village, box, there in cases():
            if not naive_hull(village, box)[1]:
                for function, rest in ((gone_span, [("a", "b")]), (house_span, ["a"]), (letters_between, [])):
                    self.assertIs(raised(BadBox, function, village, box, *rest).thing, box)
            elif not there:
                for function, rest in ((gone_span, [("a", "a")]), (house_span, [None]), (letters_between, [])):
                    raised(NotPossible, function, village, box, *rest)
            else:
                seen += 1
                for path in village.paths():
                    least, most = gone_span(village, box, path)
                    self.assertEqual({ledger[path] for letters, ledger in there}, set(range(least, most + 1)))
                    self.assertEqual(gone_span(village, box, list(path[::-1])), (least, most))
                for house in village.houses():
                    least, most = house_span(village, box, house)
                    self.assertEqual({letters[house] for letters, ledger in there}, set(range(least, most + 1)))
                least, most = letters_between(village, box)
                self.assertEqual({sum(letters.values()) for letters, ledger in there}, set(range(least, most + 1)))
        self.assertGreater(seen, 60)

    def test_examples(self):
        box = ({**ONE_EACH, "a": (0, 2)}, EXAMPLE[1])
        self.assertEqual(gone_span(star(), box, ("b", "c")), (0, 1))
        self.assertEqual(letters_between(star(), box), (4, 5))
        self.assertEqual(house_span(star(), box, "a"), (2, 2))
        self.assertEqual(letters_between(two(), ({"a": (0, 9), "x": (0, 9)}, {("a", "x"): (4, 5)})), (8, 18))

    def test_the_cheaper_one_of_two_further_paths_is_gone_more_often(self):
        for cheap, dear in (("c", "d"), ("d", "c")):
            box = ({"a": (0, 3), "b": (0, 0), cheap: (3, 3), dear: (0, 2)},
                   {("a", "b"): (3, 3), ("b", "c"): (1, 2), ("b", "d"): (1, 2)})
            self.assertEqual(letters_between(star(), box), (7, 8))

    def test_a_number_of_houses_in_one_row(self):
        village = Village(list("abcde"), [("a", "b"), ("b", "c"), ("c", "d"), ("d", "e")])
        box = ({house: (0, 4) for house in "abcde"}, {path: (1, 3) for path in village.paths()})
        self.assertEqual(letters_between(village, box), (2, 20))
        box[1][("b", "c")] = (3, 3)
        self.assertEqual(letters_between(village, box), (6, 20))
        self.assertEqual(house_span(village, box, "b"), (0, 4))
        self.assertEqual(gone_span(village, box, ("a", "b")), (1, 3))

    def test_wrong(self):
        box = ({**ONE_EACH, "a": (0, 2)}, EXAMPLE[1])
        bad = any_objects() + [(ONE_EACH,), (ONE_EACH, TWOS, 1), (TWOS, ONE_EACH), {0: ONE_EACH, 1: TWOS}, ONE_EACH]
        bad += [(spans, TWOS) for spans in bad_spans(ONE_EACH)] + [(ONE_EACH, spans) for spans in bad_spans(TWOS)]
        for function, rest in ((is_in, [None]), (sides, []), (letterbox_paper, []), (some_pair, []),
                               (gone_span, [("a", "c")]), (house_span, [None]), (letters_between, [])):
            for thing in bad:
                self.assertIs(raised(BadBox, function, star(), thing, *rest).thing, thing)
        for one, other in [("a", "c"), ("a", "a"), ("d", "c")]:
            for path in ((one, other), [one, other]):
                error = raised(NoPath, gone_span, star(), box, path)
                self.assertEqual((error.one, error.other), (one, other))
            self.assertIs(raised(BadBox, gone_span, star(), NO_HULL, (one, other)).thing, NO_HULL)
            raised(NotPossible, gone_span, star(), EXAMPLE, (one, other))
        for thing in any_objects():
            self.assertIs(raised(NoHouse, house_span, star(), box, thing).thing, thing)
            self.assertIs(raised(BadBox, house_span, star(), NO_HULL, thing).thing, NO_HULL)
            raised(NotPossible, house_span, star(), EXAMPLE, thing)


if __name__ == "__main__":
    unittest.main()
