"""Hamlets written as texts, and read from them."""

from letterround.errors import BadText
from letterround.hamlets import hamlet_with
from letterround.hamletstates import State, is_question_of
from letterround.kinds import FIGURES, is_name
from letterround.villages import Village, joined_groups

MOST_FIGURES = 9


def write_hamlet(hamlet):
    """The text of a hamlet."""
    letters = hamlet.letters()
    book = hamlet.book()
    postman = hamlet.postman()
    rows = [["house", house, str(letters[house])] for house in letters]
    rows.extend([["path", one, other, str(book[(one, other)])] for one, other in book])
    if postman is not None:
        rows.append(["out", *postman])
    rows.extend([["hold" if held else "watch", *question] for question, answer, held in hamlet.watched()])
    return "".join([" ".join(row) + "\n" for row in rows])


def read_hamlet(text):
    """The hamlet of a text, no deed done; it raises BadText with the first line that is wrong."""
    if not isinstance(text, str):
        raise BadText(0)
    lines = text.split("\n")
    rows = [line.split(" ") for line in lines[:-1]]
    got = houses_of_rows(rows)
    place = len(got)
    gone = paths_of_rows(rows[place:], got)
    place = place + len(gone)
    # As no path makes a ring, all houses are joined just by one path fewer than there are houses.
    if len(gone) + 1 != len(got):
        raise BadText(place + 1)
    out = out_of_rows(rows[place:], got)
    if out is not None:
        place = place + 1
    state = State(Village(list(got), list(gone)), got, gone, out, [])
    asked = []
    for further, row in enumerate(rows[place:]):
        question = tuple(row[1:])
        if row[0] not in ("watch", "hold") or not is_question_of(state, question):
            raise BadText(place + further + 1)
        if question in [told for told, held in asked]:
            raise BadText(place + further + 1)
        asked.append((question, row[0] == "hold"))
    if lines[-1] != "":
        raise BadText(len(lines))
    return hamlet_with([State(state.ground, got, gone, out, asked)], [], [])


def is_written_number(text):
    """Tells whether a text is a number as Python writes it, of at most nine figures."""
    if not 1 <= len(text) <= MOST_FIGURES or not all([sign in FIGURES for sign in text]):
        return False
    return text == "0" or text[0] != "0"


def houses_of_rows(rows):
    """The dict from the houses of the first rows to their letters, up to the first row that can't stand there."""
    got = {}
    last = ""
    for row in rows:
        if len(row) != 3 or row[0] != "house" or not is_name(row[1]) or not is_written_number(row[2]):
            return got
        if row[1] <= last:
            return got
        last = row[1]
        got[last] = int(row[2])
    return got


def paths_of_rows(rows, got):
    """The dict from the paths of the first rows to their numbers, up to the first row that can't stand there."""
    gone = {}
    last = ("", "")
    group = {house: house for house in got}
    for row in rows:
        if len(row) != 4 or row[0] != "path" or not is_written_number(row[3]):
            return gone
        one, other = row[1:3]
        if one not in got or other not in got or not one < other or (one, other) <= last:
            return gone
        if group[one] == group[other]:
            return gone
        group = joined_groups(group, group[one], group[other])
        last = (one, other)
        gone[last] = int(row[3])
    return gone


def out_of_rows(rows, got):
    """The pair of the houses of the first row, None if it tells of no postman who is out."""
    if len(rows) == 0 or len(rows[0]) != 3 or rows[0][0] != "out":
        return None
    if not all([house in got for house in rows[0][1:]]):
        return None
    return tuple(rows[0][1:])
