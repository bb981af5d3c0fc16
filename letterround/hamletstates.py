"""How a hamlet stands: its village, letters, book, postman and watched questions; what is a question, and answered."""

from letterround.counting import count_rounds
from letterround.errands import errands_fault
from letterround.kinds import is_listed
from letterround.letters import letters_beyond
from letterround.therule import can_be, paper_of, parting_paths, spare
from letterround.villages import Village, is_house

HOUSES_ASKED = {"can": 0, "paper": 0, "parting": 0, "rounds": 0, "spare": 2, "first": 1, "errands": 0, "beyond": 2}


class State:
    """A village with what its houses got, how often its paths are gone in the book, who is out, and what is asked.

    out is None or the pair of the postman's first house and the one where he is; asked is the list of the pairs of a
    watched question and whether it is held. It never changes.
    """

    def __init__(self, ground, got, gone, out, asked):
        self.ground = ground
        self.got = got
        self.gone = gone
        self.out = out
        self.asked = asked


def first_state(name):
    """How a hamlet of one house stands at first."""
    return State(Village([name], []), {name: 0}, {}, None, [])


def are_same_states(one, other):
    """Tells whether two hamlets stand alike."""
    if one.ground != other.ground or one.got != other.got or one.gone != other.gone:
        return False
    return one.out == other.out and one.asked == other.asked


def is_question_of(state, thing):
    """Tells of any object whether it is a question of a hamlet that stands so."""
    if not is_listed(thing) or len(thing) == 0 or not isinstance(thing[0], str) or thing[0] not in HOUSES_ASKED:
        return False
    houses = thing[1:]
    if len(houses) != HOUSES_ASKED[thing[0]] or not all([is_house(state.ground, house) for house in houses]):
        return False
    return len(houses) < 2 or houses[1] in state.ground.near()[houses[0]]


def answer_of(state, question):
    """What is answered to a question of a hamlet that stands so, None while there is no letter."""
    ground, got, gone = state.ground, state.got, state.gone
    kind = question[0]
    if sum(got.values()) == 0:
        return None
    if kind == "can":
        return can_be(ground, got, gone)
    if kind == "paper":
        paper = paper_of(ground, got, gone)
        return None if paper is None else paper[0]
    if kind == "parting":
        return len(parting_paths(ground, got))
    if kind == "rounds":
        return count_rounds(ground, got, gone)
    if kind == "spare":
        return spare(ground, got, gone)[(question[1], question[2])]
    if kind == "first":
        return got[question[1]] > 0 and can_be(ground, got, gone)
    if kind == "errands":
        return errands_fault(ground, (gone, got)) is None
    return letters_beyond(ground, got, question[1], question[2])


def changed_answers(ahead, behind):
    """The list of the triples of a question that is watched ahead, and its two answers, where these are not alike."""
    told = []
    for question, held in ahead.asked:
        answers = [answer_of(ahead, question), answer_of(behind, question)]
        if answers[0] != answers[1]:
            told.append((question, answers[0], answers[1]))
    return told
