"""Hamlets: villages that live, with letters, a book, a postman, watched questions, and deeds, back and on again."""

from letterround.errors import BadName, BadQuestion, NoCount, WouldChange
from letterround.hamletdeeds import state_behind, told_deed
from letterround.hamletstates import answer_of, are_same_states, changed_answers, first_state, is_question_of
from letterround.kinds import OwnThing, is_name, is_number
from letterround.therule import can_be


class Hamlet(OwnThing):
    """A village that lives: how it stood at first and behind each deed, and what was taken back."""

    def __init__(self, name):
        if not is_name(name):
            raise BadName(name)
        # None of these lists is ever changed, so hamlets may share them, and a trial needs no copies.
        self._states = [first_state(name)]
        self._done = []
        self._undone = []

    def now(self):
        """The village."""
        return self._states[-1].ground

    def letters(self):
        """The dict from all houses to how many letters they got, perhaps all 0."""
        return dict(self._states[-1].got)

    def book(self):
        """The ledger of how often each path was gone."""
        state = self._states[-1]
        return {path: state.gone[path] for path in state.gone}

    def postman(self):
        """None, or the pair of the house of the postman's first letter and the one where he is."""
        return self._states[-1].out

    def watched(self):
        """The list of the triples of a watched question, its answer, and whether it is held, as they came."""
        state = self._states[-1]
        return [(question, answer_of(state, question), held) for question, held in state.asked]

    def do(self, deed):
        """Does a deed: the list of the triples (question, ahead, behind) of what is answered otherwise behind it."""
        state = self._states[-1]
        further = state_behind(state, deed)
        told = changed_answers(state, further)
        changed = [question for question, ahead, behind in told]
        for question, held in state.asked:
            if held and question in changed:
                raise WouldChange(question)
        self._states = [*self._states, further]
        self._done = [*self._done, told_deed(deed)]
        self._undone = []
        return told

    def is_question(self, thing):
        """Tells of any object whether it is a question now."""
        return is_question_of(self._states[-1], thing)

    def answer(self, question):
        """What is answered to a question."""
        if not is_question_of(self._states[-1], question):
            raise BadQuestion(question)
        return answer_of(self._states[-1], question)

    def would(self, deed):
        """What do would return, whatever is held; nothing is changed."""
        return changed_answers(self._states[-1], state_behind(self._states[-1], deed))

    def mending_paths(self):
        """The ascending list of the paths such that, once more in the book, letters and book are some round's."""
        state = self._states[-1]
        if sum(state.got.values()) == 0 or can_be(state.ground, state.got, state.gone):
            return []
        book = self.book()
        return [path for path in book if can_be(state.ground, state.got, {**book, path: book[path] + 1})]

    def count(self):
        """How many deeds are done and not taken back."""
        return len(self._done)

    def undo(self):
        """Takes the last deed back, and tells it, None if there is none."""
        if len(self._done) == 0:
            return None
        deed = self._done[-1]
        self._undone = [*self._undone, (deed, self._states[-1])]
        self._states = self._states[:-1]
        self._done = self._done[:-1]
        return deed

    def again(self):
        """Does the deed that was taken back last again, and tells it, None if there is none."""
        if len(self._undone) == 0:
            return None
        deed, state = self._undone[-1]
        self._states = [*self._states, state]
        self._done = [*self._done, deed]
        self._undone = self._undone[:-1]
        return deed

    def deeds(self):
        """The list of the deeds that are done and not taken back."""
        return list(self._done)

    def at(self, number):
        """Another hamlet, as this one was behind so many deeds, none to be done again."""
        if not is_number(number) or number > len(self._done):
            raise NoCount(number)
        return hamlet_with(self._states[:number + 1], self._done[:number], [])

    def copy(self):
        """Another hamlet like this one, with what can be done again, too."""
        return hamlet_with(self._states, self._done, self._undone)

    def trial(self, work):
        """Calls a function with the hamlet, and tells what it tells; behind it all is as ahead."""
        states, done, undone = self._states, self._done, self._undone
        try:
            return work(self)
        finally:
            self._states, self._done, self._undone = states, done, undone

    def __eq__(self, other):
        return isinstance(other, Hamlet) and are_same_states(self._states[-1], other._states[-1])


def hamlet_with(states, done, undone):
    """A hamlet that stood so at first and behind each deed done, with pairs of deeds taken back and states behind."""
    told = Hamlet(states[0].ground.houses()[0])
    told._states = states
    told._done = done
    told._undone = undone
    return told
