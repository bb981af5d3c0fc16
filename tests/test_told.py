"""[2], [3], [5], [6]: parameters by name, lists and tuples, what is told new, nothing that is passed changed."""

import unittest

from letterround.barerows import bare_row, rounds_over
from letterround.branches import Branch, bare_pair, inner_ledger
from letterround.corridors import Corridor, corridor_lets
from letterround.errors import PostError
from letterround.ladders import is_ladder, ladder
from letterround.villages import Village
from tests.calls import BOX, LEAST, LETTERBOX, calls, some_branch
from tests.helpers import LEDGER, LETTERS, any_objects, star


def other_way_round(thing):
    """Lists for tuples, tuples for lists, dicts in another order, at every depth; keys stay."""
    if isinstance(thing, list):
        return tuple(other_way_round(part) for part in thing)
    if isinstance(thing, tuple):
        return [other_way_round(part) for part in thing]
    if isinstance(thing, dict):
        return {key: other_way_round(thing[key]) for key in reversed(list(thing))}
    return thing


def copied(thing):
    """A copy of lists, tuples and dicts; the rest as it is."""
    if isinstance(thing, (list, tuple)):
        return thing.__class__(copied(part) for part in thing)
    if isinstance(thing, dict):
        return {key: copied(thing[key]) for key in thing}
    return thing


def spoil(thing):
    """Changes all lists and dicts within a thing."""
    if isinstance(thing, (list, tuple)):
        for part in thing:
            spoil(part)
        if isinstance(thing, list):
            thing.append("spoiled")
    if isinstance(thing, dict):
        for part in thing.values():
            spoil(part)
        thing["spoiled"] = "spoiled"


def orders_right(thing):
    """Tells whether all dicts within a thing are ascending by their keys."""
    if isinstance(thing, (list, tuple)):
        return all(orders_right(part) for part in thing)
    if isinstance(thing, dict):
        return list(thing) == sorted(thing) and all(orders_right(part) for part in thing.values())
    return True


def same(one, other):
    """Tells whether two things are equal, kinds of lists and truths, too."""
    if one.__class__ is not other.__class__:
        return False
    if isinstance(one, (list, tuple)):
        return len(one) == len(other) and all(same(*pair) for pair in zip(one, other))
    if isinstance(one, dict):
        return list(one) == list(other) and all(same(one[key], other[key]) for key in one)
    return one == other


def outcome(function, given):
    """What a call tells, or the error that it raises, with all that this holds."""
    try:
        return function(**given)
    except PostError as error:
        return error.__class__.__name__, vars(error)


OTHERS = {
    "letters": [{"a": 1, "b": 0, "c": 2, "d": 1}, {"a": 0, "b": 4, "c": 0, "d": 0}],
    "ledger": [{("a", "b"): 1, ("b", "c"): 2, ("b", "d"): 1}, LEAST],
    "passes": [{("a", "b"): 2, ("b", "c"): 3, ("b", "d"): 1}],
    "lengths": [{("a", "b"): 5, ("b", "c"): 0, ("b", "d"): 2}],
    "caps": [{("a", "b"): 1, ("b", "c"): 1, ("b", "d"): 2}],
    "tolls": [{path: [1, -1, 2] for path in LEDGER}],
    "first": ["a", "d"],
    "last": ["c"],
    "house": ["b", "c"],
    "number": [0, 1],
    "thing": [None],
    "lot": [[["a", "b", "a"], ["c"], ["d", "d", "c"]]],
    "tellers": [[("a", 0), ("b", 0), ("c", 0), ("d", 0)], []],
    "counts": [({("a", "b"): 2, ("b", "c"): 2, ("b", "d"): 2}, {"a": 2, "b": 0, "c": 2, "d": 2})],
    "by_path": [{("a", "b"): 3, ("b", "c"): 1, ("b", "d"): 0}],
    "box": [BOX, LETTERBOX],
    "boxes": [{}, {("b", "c"): (0, 4)}],
    "rim": ["a"],
    "start": ["b", "d"],
    "ends": [{"a": 1, "b": 1, "c": 1, "d": 1}],
    "begun": [["a"], []],
    "one": ["a", "d"],
    "other": ["d", "b"],
    "spans": [({path: (1, 1) for path in LEDGER}, {house: (0, 3) for house in LETTERS})],
    "flows": [({pair: 0 for path in LEDGER for pair in (path, path[::-1])}, {house: (0, 0) for house in LETTERS})],
    "steps": [{pair: 2 for path in LEDGER for pair in (path, path[::-1])}],
    "told": [{"a": (2, 0), "b": (0, 0), "c": (0, 1), "d": (0, 1)}, {"a": (0, 0), "b": (1, 1), "c": (1, 1), "d": (0, 0)}],
    "returns": [{path: 0 for path in LEDGER}],
    "some": [{}, {("b", "d"): 0}],
    "weave": [{house: [] for house in LETTERS}],
    "crossings": [{}],
}


class Told(unittest.TestCase):
    def test_by_name_and_by_place_tell_the_same(self):
        for function, given in calls():
            told = function(**given)
            self.assertTrue(same(told, function(*given.values())), function.__name__)

    def test_lists_for_tuples_and_tuples_for_lists_and_orders_of_dicts(self):
        for function, given in calls():
            turned = {name: other_way_round(given[name]) for name in given}
            self.assertTrue(same(function(**given), function(**turned)), function.__name__)

    def test_what_is_passed_is_never_changed(self):
        for function, given in calls():
            ahead = {name: copied(given[name]) for name in given}
            function(**given)
            for name in given:
                self.assertTrue(same(given[name], ahead[name]), function.__name__)

    def test_what_is_told_is_new_each_time(self):
        for function, given in calls():
            ahead = copied(function(**given))
            passed = {name: copied(given[name]) for name in given}
            spoil(function(**given))
            self.assertTrue(same(function(**given), ahead), function.__name__)
            for name in given:
                self.assertTrue(same(given[name], passed[name]), function.__name__)

    def test_dicts_are_ascending(self):
        for function, given in calls():
            turned = {name: other_way_round(given[name]) for name in given}
            self.assertTrue(orders_right(function(**turned)), function.__name__)

    def test_all_interface_functions_are_called_here(self):
        names = {function.__name__ for function, _ in calls()}
        self.assertEqual(len(names), 217)

    def test_a_ladder_shares_nothing_with_what_is_passed(self):
        high, low = dict(LEDGER), dict(LEAST)
        told = ladder(star(), LETTERS, high, low)
        for ledger in told:
            self.assertTrue(ledger is not high and ledger is not low)
        self.assertEqual(len({id(ledger) for ledger in told}), len(told))
        self.assertIs(is_ladder(star(), LETTERS, told), True)

    def test_a_village_keeps_copies(self):
        houses, paths = ["a", "b"], [["a", "b"]]
        village = Village(houses, paths)
        paths[0].append("c")
        houses[0] = "z"
        self.assertEqual((village.houses(), village.paths()), (["a", "b"], [("a", "b")]))

    def test_one_village_with_two_letters_and_ledgers_in_turns(self):
        village = star()
        for function, given in calls():
            if given.get("village") != village:
                continue
            kept = {name: given[name] for name in given if name != "village"}
            told = [kept]
            for name in kept:
                told += [{**kept, name: other} for other in OTHERS.get(name, [])]
            told.append({name: OTHERS.get(name, [kept[name]])[0] for name in kept})
            for more in told + told[::-1] + told:
                here = outcome(function, {"village": village, **more})
                self.assertTrue(same(here, outcome(function, {"village": star(), **copied(more)})), function.__name__)

    def test_one_branch_and_one_corridor_asked_in_turns(self):
        branch = some_branch()
        around = Branch(Village(["p"], []), "p", {"p": 3}, {})
        numbers = (1, 6, 2, 7, 1, 3)
        told = [inner_ledger(some_branch(), number) for number in numbers]
        for _ in range(2):
            spoil(branch.letters())
            spoil(branch.boxes())
            self.assertEqual([inner_ledger(branch, number) for number in numbers], told)
            self.assertEqual((bare_pair(branch), bare_row(branch)), (bare_pair(some_branch()), bare_row(some_branch())))
            self.assertEqual(rounds_over(branch, around), rounds_over(some_branch(), around))
            spoil(bare_row(branch))
            self.assertEqual(branch, some_branch())
        corridor = Corridor(star(), "a", "c", LETTERS, {("b", "d"): (1, 1)})
        for _ in range(2):
            lets = [corridor_lets(corridor, one, other) for one in range(1, 9) for other in range(1, 9)]
            again = Corridor(star(), "a", "c", dict(LETTERS), {("b", "d"): [1, 1]})
            self.assertEqual(lets, [corridor_lets(again, one, other) for one in range(1, 9) for other in range(1, 9)])
            spoil(corridor.boxes())
            spoil(corridor.letters())
            self.assertEqual(corridor, again)

    def test_any_objects_are_not_changed_by_being_asked_about(self):
        things = any_objects()
        kept = [copied(thing) for thing in things]
        for function, given in calls():
            if "thing" in given:
                for thing in things:
                    function(**{**given, "thing": thing})
        for thing, ahead in zip(things, kept):
            if thing.__class__ in (list, tuple, dict):
                self.assertEqual(str(thing), str(ahead))


if __name__ == "__main__":
    unittest.main()
