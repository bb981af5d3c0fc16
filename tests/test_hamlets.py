"""[135] to [140]: hamlets, their deeds, questions, what is ahead, back and on again, trials."""

import unittest
from random import Random

from letterround.counting import count_rounds
from letterround.errands import errands_fault
from letterround.errors import (BadDeed, BadName, BadQuestion, HasLetters, InUse, IsOut, IsWatched, NoCount, NoHouse,
                                NoPath, NotLeaf, NotOut, NotWatched, PostError, TakenHouse, TooMany, WasGone, WouldChange)
from letterround.goingon import next_houses
from letterround.hamlets import Hamlet
from letterround.letters import letters_beyond
from letterround.rounds import ledger_of
from letterround.therule import can_be, paper_of, parting_paths, spare
from letterround.villages import Village, beside
from tests.helpers import LEDGER, LETTERS, any_objects, naive_walk, raised, star

EXAMPLE = [("build", "a", "b"), ("build", "c", "b"), ("build", "d", "b"), ("out", "a"), ("bring", "c"), ("bring", "a"),
           ("bring", "d"), ("home",)]
ALONE = [("can",), ("paper",), ("parting",), ("rounds",), ("errands",)]
WORDS = ["build", "pull", "write", "burn", "enter", "strike", "out", "bring", "home", "watch", "hold", "free"]


def hamlet_of(deeds, name="b"):
    hamlet = Hamlet(name)
    for deed in deeds:
        hamlet.do(deed)
    return hamlet


def questions_of(village):
    """All questions of a village."""
    told = list(ALONE) + [("first", house) for house in village.houses()]
    for one, other in village.paths():
        told += [(word, *pair) for word in ("spare", "beyond") for pair in ((one, other), (other, one))]
    return told


def naive_answer(village, letters, book, question):
    """What the functions of the other sections tell."""
    if not any(letters.values()):
        return None
    word, *houses = question
    both = (village, letters, book)
    if word == "can":
        return can_be(*both)
    if word == "paper":
        return (paper_of(*both) or (None,))[0]
    if word == "parting":
        return len(parting_paths(village, letters))
    if word == "rounds":
        return count_rounds(*both)
    if word == "spare":
        return spare(*both)[tuple(houses)]
    if word == "first":
        return houses[0] in next_houses(*both, [])
    if word == "errands":
        return errands_fault(village, (book, letters)) is None
    return letters_beyond(village, letters, *houses)


def standing(hamlet):
    """All that a hamlet tells of itself, but what can be done again."""
    return (hamlet.now().houses(), hamlet.now().paths(), hamlet.letters(), hamlet.book(), hamlet.postman(), hamlet.watched(),
            hamlet.deeds(), hamlet.count())


def back_rows(hamlet):
    """All that a hamlet tells behind being taken back whole, and done again whole; it is as ahead."""
    told = []
    while (deed := hamlet.again()) is not None:
        told.append((deed, standing(hamlet)))
    for _ in told:
        hamlet.undo()
    return told


class Model:
    """A hamlet kept in plain dicts, whose deeds are checked and done in the order of the document's words."""

    def __init__(self, name):
        self.houses, self.paths, self.out, self.asked = {name: 0}, {}, None, []

    def village(self):
        return Village(list(self.houses), list(self.paths))

    def letters(self):
        return {house: self.houses[house] for house in sorted(self.houses)}

    def book(self):
        return {path: self.paths[path] for path in sorted(self.paths)}

    def copy(self):
        told = Model("x")
        told.houses, told.paths, told.out, told.asked = dict(self.houses), dict(self.paths), self.out, list(self.asked)
        return told

    def answers(self):
        return [naive_answer(self.village(), self.letters(), self.book(), question) for question, held in self.asked]

    def error(self, deed):
        """The name of the error that a deed raises and what it holds, but of questions; None if there is none."""
        word, *parts = deed
        here = None if self.out is None else self.out[1]
        if word == "build" and parts[0] in self.houses:
            return "TakenHouse", parts[0]
        if word in ("bring", "home") and self.out is None:
            return ("NotOut",)
        if word == "out" and self.out is not None:
            return "IsOut", here
        asked = {"build": parts[1:], "enter": parts[:2], "strike": parts[:2], "home": []}.get(word, parts[:1])
        if word not in ("watch", "hold", "free"):
            for house in asked:
                if house not in self.houses:
                    return "NoHouse", house
        path = tuple(sorted(parts[:2])) if word in ("enter", "strike") else None
        if word == "pull":
            near = [path for path in self.paths if parts[0] in path]
            if len(near) != 1:
                return "NotLeaf", parts[0]
            if self.houses[parts[0]]:
                return "HasLetters", parts[0]
            if self.paths[near[0]]:
                return "WasGone", parts[0]
            if self.out and parts[0] in self.out:
                return "IsOut", here
        if path and path not in self.paths:
            return "NoPath", parts[0], parts[1]
        if word == "burn" and parts[1] > self.houses[parts[0]]:
            return "TooMany", self.houses[parts[0]]
        if word == "strike" and parts[2] > self.paths[path]:
            return "TooMany", self.paths[path]
        if word in ("watch", "hold", "free"):
            if parts[0] not in questions_of(self.village()):
                return "BadQuestion", parts[0]
            held = dict(self.asked).get(parts[0])
            if word != "free" and (held if word == "hold" else held is not None):
                return "IsWatched", parts[0]
            if word == "free" and held is None:
                return "NotWatched", parts[0]
        return None

    def walk(self, house):
        walk = naive_walk(self.village(), [self.out[1], house])
        for step in zip(walk, walk[1:]):
            if step in self.paths:
                self.paths[step] += 1
        self.out = (self.out[0], house)

    def done(self, deed):
        """Does what can be done."""
        word, *parts = deed
        if word == "build":
            self.paths[tuple(sorted(parts))] = 0
            self.houses[parts[0]] = 0
        elif word == "pull":
            del self.houses[parts[0]]
            del self.paths[next(path for path in self.paths if parts[0] in path)]
        elif word in ("write", "burn"):
            self.houses[parts[0]] += parts[1] if word == "write" else -parts[1]
        elif word in ("enter", "strike"):
            self.paths[tuple(sorted(parts[:2]))] += parts[2] if word == "enter" else -parts[2]
        elif word == "out":
            self.out = (parts[0], parts[0])
            self.houses[parts[0]] += 1
        elif word == "bring":
            self.walk(parts[0])
            self.houses[parts[0]] += 1
        elif word == "home":
            self.walk(self.out[0])
            self.out = None
        elif word == "free":
            self.asked = [pair for pair in self.asked if pair[0] != parts[0]]
        elif parts[0] in dict(self.asked):
            self.asked = [(question, held or question == parts[0]) for question, held in self.asked]
        else:
            self.asked.append((parts[0], word == "hold"))


def some_deed(random, model):
    """A deed, one that can be done or not."""
    houses = sorted(model.houses)
    any_house = lambda: random.choice(houses * 4 + ["zz"])
    path = random.choice(list(model.paths) or [("zz", "b")])[::random.choice([1, -1])]
    word = random.choice(WORDS + ["build", "write", "write", "enter", "enter", "out", "bring", "bring", "bring", "pull"])
    if word == "build":
        return (word, random.choice(["e", "f", "g", "h", "a", "zz1"]), any_house())
    if word in ("pull", "out", "bring"):
        return (word, any_house())
    if word in ("write", "burn"):
        return (word, any_house(), random.choice([1, 1, 2, 3]))
    if word in ("enter", "strike"):
        return (word, *(path if random.random() < 0.9 else (any_house(), any_house())), random.choice([1, 1, 2, 3]))
    if word == "home":
        return (word,)
    return (word, random.choice(questions_of(model.village()) + [("first", "zz"), ("spare", "a", "zz")]))


def told_error(hamlet, function, deed):
    """What a deed returns, or the name of the error that it raises and what this holds."""
    try:
        return function(deed)
    except PostError as error:
        return (error.__class__.__name__, *vars(error).values())


class Walks(unittest.TestCase):
    def test_many_deeds_against_a_plain_model(self):
        seen = {}
        for seed in range(160):
            random = Random(seed)
            hamlet, model, states, again = Hamlet("b"), Model("b"), [], []
            for _ in range(60):
                if random.random() < 0.12:
                    self.check_back(random, hamlet, model, states, again)
                    model = states[-1][1].copy() if states else Model("b")
                else:
                    deed = some_deed(random, model)
                    found = self.step(hamlet, model, deed)
                    seen[found] = seen.get(found, 0) + 1
                    if found == "done":
                        states.append((deed, model.copy()))
                        again.clear()
                self.check_told(hamlet, model, states)
        for name in ("done", "TakenHouse", "NotOut", "IsOut", "NoHouse", "NotLeaf", "HasLetters", "WasGone", "NoPath", "TooMany",
                     "BadQuestion", "IsWatched", "NotWatched", "InUse", "WouldChange"):
            self.assertGreater(seen[name], 3, name)

    def step(self, hamlet, model, deed):
        """Does a deed of a hamlet and its model, and tells how it ends."""
        kept, further = standing(hamlet), back_rows(hamlet)
        error = model.error(deed)
        if error is not None:
            self.assertEqual(told_error(hamlet, hamlet.do, deed), error)
            self.assertEqual(told_error(hamlet, hamlet.would, deed), error)
            self.assertEqual((standing(hamlet), back_rows(hamlet)), (kept, further))
            return error[0]
        behind = model.copy()
        behind.done(deed)
        gone = [question for question, held in model.asked if question not in questions_of(behind.village())]
        if gone and deed[0] == "pull":
            self.assertEqual(told_error(hamlet, hamlet.do, deed), ("InUse", gone[0]))
            self.assertEqual(told_error(hamlet, hamlet.would, deed), ("InUse", gone[0]))
            self.assertEqual((standing(hamlet), back_rows(hamlet)), (kept, further))
            return "InUse"
        ahead = model.answers()
        later = [naive_answer(behind.village(), behind.letters(), behind.book(), question) for question, held in model.asked]
        changed = [(pair[0], x, y) for pair, x, y in zip(model.asked, ahead, later) if x != y]
        self.assertEqual(hamlet.would(deed), changed)
        self.assertEqual((standing(hamlet), back_rows(hamlet)), (kept, further))
        held = [question for question, x, y in changed if dict(model.asked)[question]]
        if held:
            self.assertEqual(told_error(hamlet, hamlet.do, deed), ("WouldChange", held[0]))
            self.assertEqual((standing(hamlet), back_rows(hamlet)), (kept, further))
            return "WouldChange"
        self.assertEqual(hamlet.do(deed), changed)
        model.done(deed)
        return "done"

    def check_back(self, random, hamlet, model, states, again):
        """Takes deeds back, and does some again."""
        for _ in range(random.randrange(1, 4)):
            if random.random() < 0.6:
                self.assertEqual(hamlet.undo(), states[-1][0] if states else None)
                if states:
                    again.append(states.pop())
            else:
                self.assertEqual(hamlet.again(), again[-1][0] if again else None)
                if again:
                    states.append(again.pop())

    def check_told(self, hamlet, model, states):
        self.assertEqual(hamlet.now(), model.village())
        self.assertEqual((list(hamlet.letters().items()), list(hamlet.book().items())),
                         (list(model.letters().items()), list(model.book().items())))
        self.assertEqual(hamlet.postman(), model.out)
        self.assertEqual(hamlet.watched(), [(*pair, held) for pair, held in self.watched(model)])
        self.assertEqual(hamlet.deeds(), [deed for deed, _ in states])
        self.assertEqual(hamlet.count(), len(states))
        mending = []
        if any(model.houses.values()) and not can_be(model.village(), model.letters(), model.book()):
            for path in model.book():
                if can_be(model.village(), model.letters(), {**model.book(), path: model.paths[path] + 1}):
                    mending.append(path)
        self.assertEqual(hamlet.mending_paths(), mending)
        there = questions_of(model.village())
        for question in there[len(states) % 7::7]:
            answer = naive_answer(model.village(), model.letters(), model.book(), question)
            self.assertEqual((hamlet.is_question(question), hamlet.answer(question)), (True, answer))
        for house in "efgh":
            self.assertIs(hamlet.is_question(("first", house)), ("first", house) in there)
            self.assertIs(hamlet.is_question(("spare", house, "b")), ("spare", house, "b") in there)

    def watched(self, model):
        return [((question, answer), held) for (question, held), answer in zip(model.asked, model.answers())]


class Questions(unittest.TestCase):
    def test_answers_are_those_of_the_other_sections(self):
        hamlet = hamlet_of(EXAMPLE)
        for more in ([], [("enter", "b", "c", 1)], [("write", "b", 3), ("enter", "a", "b", 1)], [("burn", "a", 2)],
                     [("burn", "c", 1), ("burn", "a", 2), ("burn", "d", 1)], [("build", "e", "d"), ("write", "e", 2)]):
            other = hamlet.copy()
            for deed in more:
                other.do(deed)
            given = (other.now(), other.letters(), other.book())
            for question in questions_of(other.now()):
                told = other.answer(question)
                self.assertEqual(told, naive_answer(*given, question))
                self.assertIs(told.__class__, naive_answer(*given, question).__class__)
                self.assertEqual(other.answer(list(question)), told)
                self.assertIs(other.is_question(question), True)
                self.assertIs(other.is_question(list(question)), True)

    def test_without_letters_all_is_none(self):
        hamlet = hamlet_of([("build", "a", "b"), ("enter", "a", "b", 2)])
        for question in questions_of(hamlet.now()):
            self.assertIsNone(hamlet.answer(question))
        self.assertEqual(hamlet.mending_paths(), [])

    def test_what_is_no_question(self):
        hamlet = hamlet_of(EXAMPLE)
        bad = any_objects() + ["can", (), ("can", "a"), ("first",), ("first", "zz"), ("first", None), ("first", "a", "b"),
                               ("spare", "a"), ("spare", "a", "c"), ("spare", "a", "a"), ("spare", "a", "b", "c"), ("could",),
                               ("beyond", "c", "a"), ("beyond", "b"), ("beyond", ["b"], "a"), (("can",),), {0: "can"}, [["can"]],
                               (["first"], "a"), ({}, "a"), (None, "a"), (0, "a")]
        for thing in bad:
            self.assertIs(hamlet.is_question(thing), False)
            self.assertIs(raised(BadQuestion, hamlet.answer, thing).thing, thing)
            for word in ("watch", "hold", "free"):
                self.assertIs(raised(BadQuestion, hamlet.do, (word, thing)).thing, thing)
                self.assertIs(raised(BadQuestion, hamlet.would, [word, thing]).thing, thing)

    def test_watched_and_held(self):
        hamlet = hamlet_of(EXAMPLE)
        self.assertEqual(hamlet.do(["watch", ["rounds"]]), [])
        self.assertEqual(hamlet.do(("hold", ["spare", "a", "b"])), [])
        hamlet.do(("watch", ("first", "c")))
        self.assertEqual(hamlet.watched(), [(("rounds",), 4, False), (("spare", "a", "b"), 0, True), (("first", "c"), True, False)])
        hamlet.do(("hold", ("rounds",)))
        self.assertEqual([(question, held) for question, _, held in hamlet.watched()],
                         [(("rounds",), True), (("spare", "a", "b"), True), (("first", "c"), False)])
        for word, thing in (("watch", ["rounds"]), ("watch", ("first", "c")), ("hold", ["rounds"])):
            self.assertIs(raised(IsWatched, hamlet.do, (word, thing)).thing, thing)
        hamlet.do(("free", ["rounds"]))
        thing = ["rounds"]
        self.assertIs(raised(NotWatched, hamlet.do, ["free", thing]).thing, thing)
        hamlet.do(("watch", ("rounds",)))
        self.assertEqual([question for question, _, _ in hamlet.watched()], [("spare", "a", "b"), ("first", "c"), ("rounds",)])
        self.assertEqual(hamlet.deeds()[8:11], [("watch", ("rounds",)), ("hold", ("spare", "a", "b")), ("watch", ("first", "c"))])
        self.assertEqual({question.__class__ for question, _, _ in hamlet.watched()}, {tuple})

    def test_answers_that_change(self):
        hamlet = hamlet_of(EXAMPLE + [("watch", ("rounds",)), ("watch", ("parting",)), ("hold", ("can",)), ("watch", ("paper",))])
        self.assertEqual(hamlet.would(["enter", "c", "b", 1]),
                         [(("rounds",), 4, 0), (("can",), True, False), (("paper",), None, "much")])
        self.assertEqual(raised(WouldChange, hamlet.do, ("enter", "c", "b", 1)).question, ("can",))
        self.assertEqual(hamlet.do(("write", "b", 1)), [(("rounds",), 4, 30)])
        hamlet.do(("free", ("can",)))
        self.assertEqual([word for word, _, _ in hamlet.do(("enter", "b", "c", 1))], [("rounds",), ("paper",)])
        self.assertEqual(hamlet.mending_paths(), [])

    def test_in_use_comes_ahead_of_would_change(self):
        deeds = [("build", "a", "b"), ("build", "c", "b"), ("write", "a", 1), ("hold", ("parting",)), ("watch", ("can",)),
                 ("watch", ("first", "c")), ("hold", ("beyond", "b", "c"))]
        hamlet = hamlet_of(deeds)
        self.assertEqual(raised(InUse, hamlet.do, ("pull", "c")).question, ("first", "c"))
        self.assertEqual(raised(InUse, hamlet.would, ("pull", "c")).question, ("first", "c"))
        hamlet.do(("free", ("first", "c")))
        self.assertEqual(raised(InUse, hamlet.do, ("pull", "c")).question, ("beyond", "b", "c"))
        hamlet.do(("free", ("beyond", "b", "c")))
        self.assertEqual(hamlet.do(("pull", "c")), [])
        self.assertEqual(hamlet.now().houses(), ["a", "b"])
        self.assertEqual(raised(WouldChange, hamlet.do, ("write", "b", 1)).question, ("parting",))


class Deeds(unittest.TestCase):
    def test_example(self):
        hamlet = hamlet_of(EXAMPLE)
        self.assertEqual(hamlet.letters(), {"a": 2, "b": 0, "c": 1, "d": 1})
        self.assertEqual(hamlet.book(), LEDGER)
        self.assertEqual((hamlet.answer(("rounds",)), hamlet.postman(), hamlet.now()), (4, None, star()))
        hamlet.do(("enter", "b", "c", 1))
        self.assertEqual((hamlet.answer(("paper",)), hamlet.mending_paths()), ("much", []))
        self.assertEqual(hamlet.deeds(), EXAMPLE + [("enter", "b", "c", 1)])

    def test_a_new_hamlet(self):
        hamlet = Hamlet(name="b")
        self.assertEqual(standing(hamlet), (["b"], [], {"b": 0}, {}, None, [], [], 0))
        self.assertEqual((hamlet.undo(), hamlet.again(), hamlet.mending_paths()), (None, None, []))
        for thing in any_objects() + ["1a", "B", "a" * 13]:
            if thing != "zz":
                self.assertIs(raised(BadName, Hamlet, thing).thing, thing)
        self.assertEqual(Hamlet("zz").now(), Village(["zz"], []))

    def test_what_is_no_deed(self):
        hamlet = hamlet_of(EXAMPLE)
        bad = any_objects() + ["home", (), ("home", "a"), ("out",), ("out", "a", "b"), ("out", None), ("out", "A"), ("out", ["a"]),
                               ("write", "a"), ("write", "a", 0), ("write", "a", -1), ("write", "a", True), ("write", "a", "1"),
                               ("write", "a", None), ("write", 1, 1), ("burn", "a", 0), ("enter", "a", "b"), ("enter", "a", "b", 0),
                               ("enter", ("a", "b"), 1), ("strike", "a", 1, 1), ("build", "e"), ("build", "E", "a"), ("build", "e", ""),
                               ("pull",), ("pull", "a", "b"), ("watch",), ("watch", ("can",), ("can",)), ("free",), ("hold",),
                               ("dig", "a"), (None,), (["out"], "a"), {0: "out", 1: "a"}, ("bring", "a" * 13), [("home",)]]
        for thing in bad:
            self.assertIs(raised(BadDeed, hamlet.do, thing).thing, thing)
            self.assertIs(raised(BadDeed, hamlet.would, thing).thing, thing)
        self.assertEqual(standing(hamlet), standing(hamlet_of(EXAMPLE)))

    def test_errors_in_order(self):
        hamlet = hamlet_of(EXAMPLE)
        self.check(hamlet, TakenHouse, ("build", "a", "zz"), name="a")
        self.check(hamlet, NoHouse, ("build", "e", "zz"), thing="zz")
        self.check(hamlet, NotOut, ("bring", "zz"))
        self.check(hamlet, NotOut, ("home",))
        self.check(hamlet, NoHouse, ("out", "zz"), thing="zz")
        self.check(hamlet, NoHouse, ("pull", "zz"), thing="zz")
        self.check(hamlet, NotLeaf, ("pull", "b"), name="b")
        self.check(hamlet, HasLetters, ("pull", "a"), name="a")
        self.check(hamlet, NoHouse, ("write", "zz", 1), thing="zz")
        self.check(hamlet, NoHouse, ("burn", "zz", 9), thing="zz")
        self.check(hamlet, TooMany, ("burn", "a", 3), number=2)
        self.check(hamlet, TooMany, ("burn", "b", 1), number=0)
        self.check(hamlet, NoHouse, ("enter", "zz", "yy", 1), thing="zz")
        self.check(hamlet, NoHouse, ("strike", "a", "zz", 1), thing="zz")
        self.check(hamlet, NoPath, ("enter", "c", "a", 1), one="c", other="a")
        self.check(hamlet, NoPath, ("strike", "a", "a", 9), one="a", other="a")
        self.check(hamlet, TooMany, ("strike", "b", "a", 3), number=2)
        hamlet.do(("burn", "a", 2))
        self.check(hamlet, WasGone, ("pull", "a"), name="a")
        hamlet.do(("out", "c"))
        hamlet.do(("bring", "a"))
        self.check(hamlet, IsOut, ("out", "zz"), house="a")
        self.check(hamlet, NoHouse, ("bring", "zz"), thing="zz")
        hamlet.do(("burn", "a", 1))
        hamlet.do(("strike", "a", "b", 2))
        self.check(hamlet, IsOut, ("pull", "a"), house="a")
        for deed in (("burn", "c", 2), ("strike", "b", "c", 1)):
            hamlet.do(deed)
        self.check(hamlet, IsOut, ("pull", "c"), house="a")
        hamlet.do(("home",))
        self.check(hamlet, WasGone, ("pull", "c"), name="c")
        hamlet.do(("strike", "a", "b", 1))
        hamlet.do(("pull", "a"))
        self.assertEqual(hamlet.now().houses(), ["b", "c", "d"])
        alone = Hamlet("b")
        self.check(alone, NotLeaf, ("pull", "b"), name="b")
        self.check(alone, NoPath, ("enter", "b", "b", 1), one="b", other="b")

    def check(self, hamlet, error, deed, **held):
        ahead = standing(hamlet)
        for passed in (deed, list(deed)):
            self.assertEqual(vars(raised(error, hamlet.do, passed)), held)
            self.assertEqual(vars(raised(error, hamlet.would, passed)), held)
        self.assertEqual(standing(hamlet), ahead)

    def test_the_postman(self):
        hamlet = hamlet_of(EXAMPLE[:3])
        hamlet.do(("out", "c"))
        self.assertEqual((hamlet.postman(), hamlet.letters()["c"], sum(hamlet.book().values())), (("c", "c"), 1, 0))
        hamlet.do(("bring", "c"))
        self.assertEqual((hamlet.letters()["c"], sum(hamlet.book().values())), (2, 0))
        hamlet.do(("bring", "a"))
        self.assertEqual((hamlet.postman(), hamlet.book()), (("c", "a"), {("a", "b"): 0, ("b", "c"): 0, ("b", "d"): 0}))
        hamlet.do(("build", "e", "d"))
        hamlet.do(("bring", "e"))
        self.assertEqual(hamlet.book(), {("a", "b"): 1, ("b", "c"): 0, ("b", "d"): 1, ("d", "e"): 1})
        hamlet.do(("home",))
        self.assertEqual((hamlet.postman(), hamlet.book()[("b", "c")]), (None, 1))
        self.assertEqual(hamlet.book(), ledger_of(hamlet.now(), ["c", "c", "a", "e"]))

    def test_facts_of_what_stays_some_round(self):
        for seed in range(40):
            random = Random(seed)
            hamlet = Hamlet("b")
            for name in random.sample("acdefgh", 5):
                hamlet.do(("build", name, random.choice(hamlet.now().houses())))
            row = [random.choice(hamlet.now().houses()) for _ in range(random.randrange(1, 12))]
            hamlet.do(("out", row[0]))
            for house in row[1:]:
                hamlet.do(("bring", house))
            hamlet.do(("home",))
            self.assertEqual(hamlet.book(), ledger_of(hamlet.now(), row))
            self.assertIs(hamlet.answer(("can",)), True)
            self.assertIs(hamlet.answer(("first", row[0])), True)
            gone = [house for path, number in hamlet.book().items() if number for house in path]
            for house in gone:
                hamlet.trial(lambda same: self.check_still(same, ("write", house, random.randrange(1, 9))))
            for house in hamlet.now().houses():
                hamlet.trial(lambda same: self.check_still(same, ("build", "new", house)))
                if len(beside(hamlet.now(), house)) == 1 and not hamlet.letters()[house]:
                    hamlet.trial(lambda same: self.check_still(same, ("pull", house)))

    def check_still(self, hamlet, deed):
        hamlet.do(deed)
        self.assertIs(hamlet.answer(("can",)), True)

    def test_mending_paths(self):
        hamlet = hamlet_of(EXAMPLE + [("strike", "a", "b", 2)])
        self.assertEqual((hamlet.answer(("paper",)), hamlet.mending_paths()), ("still", [("a", "b")]))
        hamlet = hamlet_of(EXAMPLE[:3] + [("write", "c", 3), ("write", "d", 2), ("enter", "b", "c", 2), ("enter", "b", "d", 1)])
        self.assertEqual((hamlet.answer(("paper",)), hamlet.mending_paths()), ("much", [("b", "d")]))


class BackAndOn(unittest.TestCase):
    def test_back_to_the_first_and_on_to_the_last(self):
        deeds = EXAMPLE + [("hold", ("can",)), ("watch", ("rounds",)), ("write", "b", 2), ("free", ("can",)), ("enter", "a", "b", 4)]
        hamlet = hamlet_of(deeds)
        told = [standing(hamlet)]
        for place in range(len(deeds), 0, -1):
            self.assertEqual(hamlet.undo(), deeds[place - 1])
            told.append(standing(hamlet))
            self.assertEqual(standing(hamlet), standing(hamlet_of(deeds[:place - 1])))
        self.assertIsNone(hamlet.undo())
        self.assertEqual(hamlet, Hamlet("b"))
        for place in range(len(deeds)):
            self.assertEqual(hamlet.again(), deeds[place])
            self.assertEqual(standing(hamlet), told[len(deeds) - 1 - place])
        self.assertIsNone(hamlet.again())

    def test_a_new_deed_ends_what_can_be_done_again(self):
        hamlet = hamlet_of(EXAMPLE)
        hamlet.undo()
        raised(IsOut, hamlet.do, ("out", "a"))
        raised(BadDeed, hamlet.do, None)
        hamlet.would(("bring", "b"))
        self.assertEqual(hamlet.again(), ("home",))
        hamlet.undo()
        hamlet.undo()
        hamlet.do(("bring", "c"))
        self.assertIsNone(hamlet.again())
        self.assertEqual(hamlet.deeds(), EXAMPLE[:6] + [("bring", "c")])

    def test_at_and_copy_go_on_by_themselves(self):
        hamlet = hamlet_of(EXAMPLE)
        hamlet.undo()
        kept = standing(hamlet)
        for number in range(len(EXAMPLE)):
            other = hamlet.at(number=number)
            self.assertEqual(standing(other), standing(hamlet_of(EXAMPLE[:number])))
            self.assertIsNone(other.again())
            other.do(("write", "b", 1))
            self.assertEqual(other.count(), number + 1)
        self.assertEqual(standing(hamlet), kept)
        other = hamlet.copy()
        self.assertEqual((standing(other), other), (kept, hamlet))
        self.assertEqual(other.again(), ("home",))
        self.assertEqual(standing(hamlet), kept)
        other.undo()
        hamlet.do(("write", "b", 1))
        self.assertEqual((other.again(), hamlet.again()), (("home",), None))
        for thing in any_objects() + [len(EXAMPLE) + 1, 999999999]:
            self.assertIs(raised(NoCount, hamlet.at, thing).thing, thing)
        self.assertEqual(hamlet.at(hamlet.count()), hamlet)

    def test_trials(self):
        hamlet = hamlet_of(EXAMPLE)
        hamlet.undo()
        kept = standing(hamlet)

        def work(same):
            self.assertIs(same, hamlet)
            same.do(("build", "e", "d"))
            same.do(("watch", ("first", "e")))
            self.assertEqual(same.trial(lambda inner: (inner.undo(), inner.undo(), inner.undo(), inner.count())[3]), 6)
            self.assertEqual((same.count(), same.again()), (9, None))
            while same.undo():
                pass
            return "worked"

        for _ in range(2):
            self.assertEqual(hamlet.trial(work=work), "worked")
            self.assertEqual(standing(hamlet), kept)
        self.assertEqual(hamlet.again(), ("home",))
        self.assertIsNone(hamlet.trial(lambda same: None))

    def test_trials_that_raise(self):
        hamlet = hamlet_of(EXAMPLE)
        hamlet.undo()
        kept = standing(hamlet)

        def work(same):
            same.do(("write", "a", 5))
            raise KeyError("out")

        with self.assertRaises(KeyError):
            hamlet.trial(work)
        self.assertEqual(standing(hamlet), kept)
        raised(NotOut, hamlet.trial, lambda same: (same.do(("home",)), same.do(("home",))))
        self.assertEqual(standing(hamlet), kept)

        def within(same):
            same.do(("write", "a", 1))
            with self.assertRaises(KeyError):
                same.trial(work)
            self.assertEqual(same.letters()["a"], hamlet.letters()["a"])
            self.assertEqual(same.letters()["a"], 3)
            return same.copy()

        other = hamlet.trial(within)
        self.assertEqual((other.letters()["a"], other.count()), (3, 8))
        self.assertEqual((standing(hamlet), hamlet.again()), (kept, ("home",)))

    def test_what_is_returned_by_a_trial_may_be_anything(self):
        hamlet = Hamlet("b")
        for thing in any_objects():
            self.assertIs(hamlet.trial(lambda same: thing), thing)

    def test_equal_hamlets(self):
        hamlet = hamlet_of(EXAMPLE)
        built = [("build", "d", "b"), ("build", "a", "b"), ("build", "c", "b"), ("write", "a", 2), ("write", "c", 1),
                 ("write", "d", 1), ("enter", "a", "b", 2), ("enter", "c", "b", 1), ("enter", "b", "d", 1)]
        self.assertTrue(hamlet == hamlet_of(built))
        for more in (("write", "b", 1), ("enter", "a", "b", 1), ("out", "b"), ("build", "e", "a"), ("watch", ("can",)),
                     ("hold", ("can",))):
            self.assertFalse(hamlet == hamlet_of(built + [more]))
            self.assertTrue(hamlet != hamlet_of(built + [more]))
        one, other = ("watch", ("can",)), ("watch", ("paper",))
        self.assertFalse(hamlet_of([one, other]) == hamlet_of([other, one]))
        self.assertFalse(hamlet_of([one]) == hamlet_of([("hold", ("can",))]))
        self.assertTrue(hamlet_of([one, ("hold", ("can",))]) == hamlet_of([("hold", ("can",))]))
        out = [("build", "a", "b"), ("write", "b", 1)]
        self.assertFalse(hamlet_of(out + [("out", "a"), ("bring", "b"), ("burn", "b", 1), ("burn", "a", 1)])
                         == hamlet_of(out + [("out", "b"), ("burn", "b", 1), ("enter", "a", "b", 1)]))
        for thing in any_objects() + [hamlet.now(), LETTERS]:
            self.assertFalse(hamlet == thing)

    def test_what_is_told_and_passed_is_nobody_elses(self):
        hamlet = hamlet_of(EXAMPLE)
        question, deed = ["spare", "a", "b"], ["watch", None]
        deed[1] = question
        hamlet.do(deed)
        kept = standing(hamlet)
        deed[0] = "free"
        question.append("c")
        for told in (hamlet.letters(), hamlet.book()):
            told.clear()
        for told in (hamlet.watched(), hamlet.deeds(), hamlet.mending_paths(), hamlet.now().houses(), hamlet.would(("write", "b", 1))):
            told.append("spoiled")
        hamlet.do(("write", "b", 1)).append("spoiled")
        hamlet.undo()
        self.assertEqual(standing(hamlet), kept)
        self.assertEqual(hamlet.deeds()[-1], ("watch", ("spare", "a", "b")))
        self.assertEqual(raised(NotWatched, hamlet.do, ("free", ("can",))).thing, ("can",))

    def test_by_name(self):
        hamlet = Hamlet(name="b")
        self.assertEqual(hamlet.do(deed=("write", "b", 1)), [])
        self.assertEqual(hamlet.would(deed=["write", "b", 1]), [])
        self.assertEqual((hamlet.is_question(thing=["can"]), hamlet.answer(question=["can"])), (True, True))
        self.assertEqual((hamlet.at(number=0).count(), hamlet.trial(work=lambda same: same.count())), (0, 1))


if __name__ == "__main__":
    unittest.main()
