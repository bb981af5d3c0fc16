"""Deeds in a hamlet: what is one, and how the hamlet stands behind it."""

from letterround.errors import (BadDeed, BadQuestion, HasLetters, InUse, IsOut, IsWatched, NotLeaf, NotOut, NotWatched,
                                TakenHouse, TooMany, WasGone)
from letterround.hamletstates import State, is_question_of
from letterround.kinds import is_integer, is_listed, is_name
from letterround.othervillages import built_on, part_of
from letterround.rounds import times_gone
from letterround.villages import ask_house, beside, is_house, path_between
from letterround.ways import ask_path, way

PARTS = {"build": ("name", "name"), "pull": ("name",), "write": ("name", "number"), "burn": ("name", "number"),
         "enter": ("name", "name", "number"), "strike": ("name", "name", "number"), "out": ("name",),
         "bring": ("name",), "home": (), "watch": ("thing",), "hold": ("thing",), "free": ("thing",)}


def is_deed(thing):
    """Tells of any object whether it is a deed, be it one that can be done or not."""
    if not is_listed(thing) or len(thing) == 0 or not isinstance(thing[0], str) or thing[0] not in PARTS:
        return False
    kinds = PARTS[thing[0]]
    return len(thing) == 1 + len(kinds) and all([is_part(kind, part) for kind, part in zip(kinds, thing[1:])])


def is_part(kind, thing):
    """Tells whether thing is of the kind that a part of a deed has to be."""
    if kind == "name":
        return is_name(thing)
    return kind == "thing" or (is_integer(thing) and thing >= 1)


def told_deed(deed):
    """A deed as it is told: a tuple, its question, too."""
    return tuple([tuple(part) if is_listed(part) else part for part in deed])


def on_ground(state, ground):
    """How a hamlet stands in another village: what is new there has nothing yet."""
    got = {house: state.got.get(house, 0) for house in ground.houses()}
    gone = {path: state.gone.get(path, 0) for path in ground.paths()}
    return State(ground, got, gone, state.out, state.asked)


def with_letters(state, house, more):
    """How a hamlet stands with so many letters more at a house."""
    got = {place: state.got[place] + more if place == house else state.got[place] for place in state.got}
    return State(state.ground, got, state.gone, state.out, state.asked)


def with_passes(state, one, other, more):
    """How a hamlet stands with a path between two houses so often more in the book."""
    there = path_between(one, other)
    gone = {path: state.gone[path] + more if path == there else state.gone[path] for path in state.gone}
    return State(state.ground, state.got, gone, state.out, state.asked)


def build_house(state, name, at):
    """Behind build."""
    if is_house(state.ground, name):
        raise TakenHouse(name)
    ask_house(state.ground, at)
    return on_ground(state, built_on(state.ground, at, name))


def pull_house(state, name):
    """Behind pull."""
    ask_house(state.ground, name)
    near = beside(state.ground, name)
    if len(near) != 1:
        raise NotLeaf(name)
    if state.got[name] > 0:
        raise HasLetters(name)
    if state.gone[path_between(name, near[0])] > 0:
        raise WasGone(name)
    if state.out is not None and name in state.out:
        raise IsOut(state.out[1])
    return on_ground(state, part_of(state.ground, [house for house in state.ground.houses() if house != name]))


def write_letters(state, house, number):
    """Behind write."""
    ask_house(state.ground, house)
    return with_letters(state, house, number)


def burn_letters(state, house, number):
    """Behind burn."""
    ask_house(state.ground, house)
    if number > state.got[house]:
        raise TooMany(state.got[house])
    return with_letters(state, house, -number)


def enter_passes(state, one, other, number):
    """Behind enter."""
    ask_path(state.ground, one, other)
    return with_passes(state, one, other, number)


def strike_passes(state, one, other, number):
    """Behind strike."""
    ask_path(state.ground, one, other)
    there = state.gone[path_between(one, other)]
    if number > there:
        raise TooMany(there)
    return with_passes(state, one, other, -number)


def set_out(state, house):
    """Behind out."""
    if state.out is not None:
        raise IsOut(state.out[1])
    ask_house(state.ground, house)
    told = with_letters(state, house, 1)
    return State(told.ground, told.got, told.gone, (house, house), told.asked)


def gone_to(state, house, out):
    """How a hamlet stands when the postman has gone to a house, and is out so."""
    passes = times_gone(state.ground, way(state.ground, state.out[1], house))
    gone = {path: state.gone[path] + passes[path][0] for path in state.gone}
    return State(state.ground, state.got, gone, out, state.asked)


def bring_letter(state, house):
    """Behind bring."""
    if state.out is None:
        raise NotOut()
    ask_house(state.ground, house)
    return with_letters(gone_to(state, house, (state.out[0], house)), house, 1)


def go_home(state):
    """Behind home."""
    if state.out is None:
        raise NotOut()
    return gone_to(state, state.out[0], None)


def held_now(state, thing):
    """Whether a question that is watched is held, None if it is not watched; it raises BadQuestion."""
    if not is_question_of(state, thing):
        raise BadQuestion(thing)
    for question, held in state.asked:
        if question == tuple(thing):
            return held
    return None


def with_asked(state, asked):
    """How a hamlet stands with other watched questions."""
    return State(state.ground, state.got, state.gone, state.out, asked)


def watch_question(state, thing):
    """Behind watch."""
    if held_now(state, thing) is not None:
        raise IsWatched(thing)
    return with_asked(state, [*state.asked, (tuple(thing), False)])


def hold_question(state, thing):
    """Behind hold."""
    held = held_now(state, thing)
    if held:
        raise IsWatched(thing)
    if held is None:
        return with_asked(state, [*state.asked, (tuple(thing), True)])
    return with_asked(state, [(question, was or question == tuple(thing)) for question, was in state.asked])


def free_question(state, thing):
    """Behind free."""
    if held_now(state, thing) is None:
        raise NotWatched(thing)
    return with_asked(state, [pair for pair in state.asked if pair[0] != tuple(thing)])


WORKS = {"build": build_house, "pull": pull_house, "write": write_letters, "burn": burn_letters, "enter": enter_passes,
         "strike": strike_passes, "out": set_out, "bring": bring_letter, "home": go_home, "watch": watch_question,
         "hold": hold_question, "free": free_question}


def state_behind(state, deed):
    """How a hamlet stands behind any object that is a deed; it raises all errors of deeds but WouldChange."""
    if not is_deed(deed):
        raise BadDeed(deed)
    work = WORKS[deed[0]]
    parts = deed[1:]
    told = work(state, *parts)
    for question, held in told.asked:
        if not is_question_of(told, question):
            raise InUse(question)
    return told
