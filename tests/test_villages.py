"""[7], [8], [14]: villages, ways, other villages."""

import unittest

from letterround.errors import (BadHouses, BadName, BadNames, BadPaths, BadSome, CommonHouse, NoHouse, NoPath,
                                NotJoined)
from letterround.othervillages import built_on, joined_by, part_of, renamed
from letterround.villages import Village, beside
from letterround.ways import beyond, way
from tests.helpers import HOUSES, PATHS, VILLAGES, any_objects, lone, naive_way, raised, star, tree, two


class Villages(unittest.TestCase):
    def test_told_ascending_whatever_the_order(self):
        village = Village(["d", "b", "a", "c"], [("d", "b"), ["b", "a"], ("c", "b")])
        self.assertEqual(village.houses(), HOUSES)
        self.assertEqual(village.paths(), PATHS)
        self.assertEqual({path.__class__ for path in village.paths()}, {tuple})
        self.assertEqual(len(village), 4)
        self.assertEqual(village, star())

    def test_one_house(self):
        village = Village(("x",), ())
        self.assertEqual((village.houses(), village.paths(), len(village)), (["x"], [], 1))
        self.assertEqual(beside(village, "x"), [])

    def test_equal_are_those_with_the_same_houses_and_paths_alone(self):
        self.assertFalse(star() != Village(tuple(HOUSES[::-1]), [list(path[::-1]) for path in PATHS]))
        self.assertFalse(lone() == Village(["y"], []))
        other = Village(HOUSES, [("a", "b"), ("b", "c"), ("c", "d")])
        for thing in [other, lone(), two(), HOUSES, (HOUSES, PATHS), None, 4, "a"]:
            self.assertFalse(star() == thing)
            self.assertTrue(star() != thing)

    def test_names(self):
        for name in ["a", "z9", "abcdefghijkl", "a12345678901"]:
            self.assertEqual(Village([name], []).houses(), [name])
        bad = ["", "A", "1a", "aB", "a_b", "a b", "abcdefghijklm", "\u00e9", "a\u00e9", "a\u0663", "a-", 1, True, None,
               ["a"], ("a",), {"a": 1}, star(), any_objects]
        for thing in bad:
            self.assertEqual(raised(BadHouses, Village, ["a", thing], [("a", "a")]).index, 1)

    def test_bad_houses(self):
        for thing in [None, True, 3, "abc", "", {"a": 1}, {}, star(), any_objects, [], ()]:
            self.assertEqual(raised(BadHouses, Village, thing, None).index, 0)
        self.assertEqual(raised(BadHouses, Village, ["a", "b", "a", 1], []).index, 2)
        self.assertEqual(raised(BadHouses, Village, ("a", "b", 1, "a"), []).index, 2)

    def test_bad_paths(self):
        for thing in [None, False, 1, "ab", {("a", "b"): 1}, star()]:
            self.assertEqual(raised(BadPaths, Village, ["a", "b"], thing).index, 0)
        for thing in any_objects() + [("a", "b"), ("b", "a"), ["a", "b"], ("a", "a"), ("c", "c"), "bc", ("b", "zz"),
                                      ("b", "c", "c"), ("c",), (("b",), "c"), ("b", True), {"b": "c"},
                                      (["b"], "c"), ("b", {}), [{"b": 1}, ["c"]]]:
            error = raised(BadPaths, Village, ["a", "b", "c"], [("a", "b"), thing, ("b", "zz")])
            self.assertEqual(error.index, 1)
        ring = [("a", "b"), ("b", "c"), ("d", "e"), ("c", "a"), ("e", "d")]
        self.assertEqual(raised(BadPaths, Village, list("abcdef"), ring).index, 3)

    def test_not_joined_names_the_first_house_not_come_to_from_the_least(self):
        self.assertEqual(raised(NotJoined, Village, ["b", "a"], []).house, "b")
        self.assertEqual(raised(NotJoined, Village, list("edcba"), [("a", "d"), ("b", "e")]).house, "b")
        self.assertEqual(raised(NotJoined, Village, list("edcba"), [("a", "b"), ("b", "d"), ("c", "e")]).house, "c")
        self.assertEqual(raised(BadPaths, Village, list("abc"), [("b", "c"), ("c", "b")]).index, 1)

    def test_it_never_changes(self):
        houses, paths = ["b", "a", "c"], [["b", "a"], ["c", "b"]]
        village = Village(houses, paths)
        self.assertEqual((houses, paths), (["b", "a", "c"], [["b", "a"], ["c", "b"]]))
        houses.append("d")
        paths[0][0] = "c"
        village.houses().clear()
        village.paths().clear()
        beside(village, "b").clear()
        self.assertEqual(village, Village(["a", "b", "c"], [("a", "b"), ("b", "c")]))
        self.assertEqual(beside(village, "b"), ["a", "c"])

    def test_beside(self):
        self.assertEqual([beside(star(), house) for house in HOUSES], [["b"], ["a", "c", "d"], ["b"], ["b"]])
        self.assertEqual(beside(tree(), "c"), ["a", "b", "d"])
        for thing in any_objects():
            self.assertIs(raised(NoHouse, beside, star(), thing).thing, thing)


class Ways(unittest.TestCase):
    def test_way_against_one_found_by_trying(self):
        for make in VILLAGES:
            village = make()
            for one in village.houses():
                for other in village.houses():
                    self.assertEqual(way(village, one, other), naive_way(village, one, other))
        self.assertEqual(way(star(), "a", "d"), ["a", "b", "d"])
        self.assertEqual(way(star(), "a", "a"), ["a"])

    def test_beyond_against_ways(self):
        for make in VILLAGES:
            village = make()
            for house in village.houses():
                for other in beside(village, house):
                    far = [place for place in village.houses() if other in naive_way(village, house, place)]
                    self.assertEqual(beyond(village, house, other), far)
        self.assertEqual(beyond(star(), "a", "b"), ["b", "c", "d"])
        self.assertEqual(beyond(star(), "b", "a"), ["a"])

    def test_wrong_houses(self):
        for thing in any_objects():
            for function in (way, beyond):
                self.assertIs(raised(NoHouse, function, star(), thing, "b").thing, thing)
                self.assertIs(raised(NoHouse, function, star(), "a", thing).thing, thing)
                self.assertIs(raised(NoHouse, function, star(), thing, "nobody").thing, thing)

    def test_no_path_as_they_were_passed(self):
        for pair in [("a", "c"), ("c", "a"), ("d", "c"), ("b", "b"), ("a", "a")]:
            error = raised(NoPath, beyond, star(), *pair)
            self.assertEqual((error.one, error.other), pair)


class OtherVillages(unittest.TestCase):
    def test_part_of(self):
        self.assertEqual(part_of(star(), ["d", "b"]), Village(["b", "d"], [("b", "d")]))
        self.assertEqual(part_of(star(), ("c",)), Village(["c"], []))
        self.assertEqual(part_of(tree(), ["e", "d", "c", "b"]),
                         Village(["b", "c", "d", "e"], [("b", "c"), ("c", "d"), ("d", "e")]))
        self.assertEqual(part_of(star(), HOUSES[::-1]), star())

    def test_part_of_wrong(self):
        for thing in [None, True, 0, "a", "", {"a": 1}, [], (), star(), any_objects]:
            self.assertEqual(raised(BadSome, part_of, star(), thing).index, 0)
        for thing in any_objects() + ["a", "b"]:
            self.assertEqual(raised(BadSome, part_of, star(), ["a", "b", thing, "a"]).index, 2)
        self.assertEqual(raised(NotJoined, part_of, star(), ["d", "c", "a"]).house, "c")
        self.assertEqual(raised(NotJoined, part_of, tree(), ["e", "d", "b"]).house, "d")

    def test_built_on(self):
        self.assertEqual(built_on(two(), "x", "b"), Village(["a", "b", "x"], [("a", "x"), ("b", "x")]))
        for thing in any_objects():
            self.assertIs(raised(NoHouse, built_on, star(), thing, "a").thing, thing)
        for thing in any_objects() + ["a", "b", "1x", "abcdefghijklm"]:
            if thing != "zz":
                self.assertIs(raised(BadName, built_on, star(), "a", thing).thing, thing)

    def test_joined_by(self):
        other = Village(["e", "f"], [("e", "f")])
        self.assertEqual(joined_by(star(), other, "c", "f"),
                         Village(list("abcdef"), PATHS + [("e", "f"), ("c", "f")]))
        self.assertEqual(joined_by(other, lone(), "e", "x"), Village(["e", "f", "x"], [("e", "f"), ("e", "x")]))
        for thing in any_objects() + ["e"]:
            self.assertIs(raised(NoHouse, joined_by, star(), other, thing, "a").thing, thing)
        for thing in any_objects() + ["a"]:
            self.assertIs(raised(NoHouse, joined_by, star(), other, "a", thing).thing, thing)
        self.assertIs(raised(NoHouse, joined_by, star(), two(), "a", "b").thing, "b")
        self.assertEqual(raised(CommonHouse, joined_by, star(), two(), "b", "x").name, "a")
        self.assertEqual(raised(CommonHouse, joined_by, tree(), star(), "e", "d").name, "a")
        self.assertEqual(raised(CommonHouse, joined_by, part_of(tree(), ["d", "e"]), star(), "e", "a").name, "d")

    def test_renamed(self):
        swapped = renamed(star(), {"b": "a", "a": "b", "d": "x", "c": "c"})
        self.assertEqual(swapped, Village(["a", "b", "c", "x"], [("a", "b"), ("a", "c"), ("a", "x")]))
        good = {"a": "p", "b": "q", "c": "r", "d": "s"}
        bad = [{**good, "a": thing} for thing in any_objects() if thing != "zz"]
        bad += [{**good, "a": "q"}, {**good, "e": "t"}, {"a": "p", "b": "q", "c": "r"}, {}, list(good.items()),
                {"a": "p", "b": "q", "c": "r", 1: "s"}]
        for thing in bad + any_objects():
            self.assertIs(raised(BadNames, renamed, star(), thing).thing, thing)


if __name__ == "__main__":
    unittest.main()
