"""[141], [142]: hamlets written and read, and texts that are wrong, with the first line that is."""

import re
import unittest
from random import Random

from letterround.errors import BadText, PostError
from letterround.hamlets import Hamlet
from letterround.hamlettexts import read_hamlet, write_hamlet
from letterround.villages import Village
from tests.helpers import any_objects, raised
from tests.test_hamlets import EXAMPLE, Model, hamlet_of, questions_of, some_deed, standing

TEXT = "house a 2\nhouse b 0\nhouse c 1\nhouse d 1\npath a b 2\npath b c 1\npath b d 1\n"
FULL = TEXT + "out d a\nhold spare a b\nwatch can\nwatch first c\n"
NUMBER = "(0|[1-9][0-9]{0,8})"
NAME = "([a-z][a-z0-9]{0,11})"
ROWS = {"house": f"house {NAME} {NUMBER}", "path": f"path {NAME} {NAME} {NUMBER}", "out": f"out {NAME} {NAME}",
        "ask": "(watch|hold)(( [a-z0-9]+)+)"}


def are_first_rows(rows):
    """Tells whether some text of a hamlet begins with these rows, a path looked at by names, order and rings alone."""
    kinds, found = [], []
    for row in rows:
        kind = next((kind for kind in ROWS if re.fullmatch(ROWS[kind], row, re.ASCII)), None)
        if kind is None:
            return False
        kinds.append(kind)
        found.append(row.split(" "))
    if kinds != sorted(kinds, key=list(ROWS).index) or kinds.count("out") > 1 or kinds[:1] not in ([], ["house"]):
        return False
    houses = [row[1] for kind, row in zip(kinds, found) if kind == "house"]
    paths = [tuple(row[1:3]) for kind, row in zip(kinds, found) if kind == "path"]
    if houses != sorted(set(houses)) or paths != sorted(set(paths)) or any(one >= other for one, other in paths):
        return False
    if not {house for path in paths for house in path} <= set(houses) or has_ring(houses, paths):
        return False
    if {"out", "ask"} & set(kinds):
        if len(paths) != len(houses) - 1:
            return False
        asked = [tuple(row[1:]) for kind, row in zip(kinds, found) if kind == "ask"]
        outs = [row[1:] for kind, row in zip(kinds, found) if kind == "out"]
        if not {house for row in outs for house in row} <= set(houses) or len(set(asked)) != len(asked):
            return False
        return set(asked) <= set(questions_of(Village(houses, paths)))
    return True


def has_ring(houses, paths):
    groups = [{house} for house in houses]
    for one, other in paths:
        first, second = [next(group for group in groups if house in group) for house in (one, other)]
        if first is second:
            return True
        groups = [group for group in groups if group not in (first, second)] + [first | second]
    return False


def wrong_line(text):
    """The number of the first line of a text that is wrong, None if it is right."""
    rows = text.split("\n")[:-1]
    for number in range(1, len(rows) + 1):
        if not are_first_rows(rows[:number]):
            return number
    if not text.endswith("\n"):
        return len(rows) + 1
    houses = sum(row.startswith("house ") for row in rows)
    paths = sum(row.startswith("path ") for row in rows)
    return len(rows) + 1 if paths != houses - 1 else None


def spoiled_texts(text, random):
    """Texts near to one, right and wrong: lines less, more, exchanged, signs changed, blanks and line feeds."""
    lines = text.split("\n")[:-1]
    for place in range(len(lines)):
        yield lines[:place] + lines[place + 1:]
        yield lines[:place] + [lines[place]] + lines[place:]
        yield lines[:place] + [""] + lines[place:]
        for change in (lambda row: row + " ", lambda row: " " + row, lambda row: row.replace(" ", "  ", 1),
                       lambda row: row.replace(" ", "", 1), lambda row: row[:-1], lambda row: row + "0", lambda row: row + "\r",
                       lambda row: row.upper(), lambda row: row.replace(" ", "\t", 1), lambda row: row + " a", lambda row: "",
                       lambda row: row.rsplit(" ", 1)[0], lambda row: row.rsplit(" ", 1)[0] + " 00", lambda row: row[1:],
                       lambda row: row.rsplit(" ", 1)[0] + " -1", lambda row: row.rsplit(" ", 1)[0] + " 1000000000",
                       lambda row: row.rsplit(" ", 1)[0] + " 999999999", lambda row: row.rsplit(" ", 1)[0] + " zz",
                       lambda row: " ".join(row.split(" ")[::-1])):
            yield lines[:place] + [change(lines[place])] + lines[place + 1:]
        for _ in range(6):
            row = lines[place]
            spot = random.randrange(len(row))
            yield lines[:place] + [row[:spot] + random.choice("abcdz 019\u0661A_+") + row[spot + 1:]] + lines[place + 1:]
        further = random.randrange(len(lines))
        told = list(lines)
        told[place], told[further] = told[further], told[place]
        yield told
    for row in ("house zz 1", "path a d 0", "path c d 1", "out a a", "watch can", "hold can", "watch rounds", "watch first zz",
                "watch spare a c", "house a 1", "watch", "hold ", "free can", "watch beyond b a"):
        for place in range(len(lines) + 1):
            yield lines[:place] + [row] + lines[place:]


class Texts(unittest.TestCase):
    def test_example(self):
        hamlet = hamlet_of(EXAMPLE)
        self.assertEqual(write_hamlet(hamlet), TEXT)
        told = read_hamlet(text=TEXT)
        self.assertEqual((told, told.count(), told.undo(), told.again(), told.deeds()), (hamlet, 0, None, None, []))
        self.assertEqual(write_hamlet(hamlet=Hamlet("x")), "house x 0\n")
        full = read_hamlet(FULL)
        self.assertEqual((full.postman(), write_hamlet(full)), (("d", "a"), FULL))
        self.assertEqual(full.watched(), [(("spare", "a", "b"), 0, True), (("can",), True, False), (("first", "c"), True, False)])
        self.assertEqual(read_hamlet("house x 0\nout x x\n").postman(), ("x", "x"))

    def test_what_is_read_of_what_is_written(self):
        for seed in range(120):
            random = Random(seed)
            hamlet, model = Hamlet("b"), Model("b")
            for _ in range(random.randrange(50)):
                deed = some_deed(random, model)
                try:
                    hamlet.do(deed)
                except PostError:
                    continue
                model.done(deed)
            text = write_hamlet(hamlet)
            self.assertEqual(text, self.naive_text(model))
            told = read_hamlet(text)
            self.assertEqual(told, hamlet)
            self.assertEqual((write_hamlet(told), told.deeds(), told.again()), (text, [], None))
            kept = standing(told)
            told.do(("write", told.now().houses()[0], 1)) if not any(row[2] for row in told.watched()) else None
            told.undo()
            self.assertEqual(standing(told), kept)
            self.assertEqual(told.at(0), hamlet)

    def naive_text(self, model):
        rows = [f"house {house} {model.houses[house]}" for house in sorted(model.houses)]
        rows += [f"path {one} {other} {model.paths[(one, other)]}" for one, other in sorted(model.paths)]
        rows += [f"out {model.out[0]} {model.out[1]}"] if model.out else []
        rows += [("hold " if held else "watch ") + " ".join(question) for question, held in model.asked]
        return "".join(row + "\n" for row in rows)

    def test_texts_near_to_right_ones(self):
        random = Random(11)
        told = {}
        small = "house x 5\nwatch can\nhold first x\n"
        apart = "house a 1\nhouse b 0\nhouse c 0\npath a c 3\npath b c 0\nwatch errands\nwatch parting\nwatch paper\n"
        for text in (FULL, TEXT, small, apart, "house x 0\n"):
            for lines in spoiled_texts(text, random):
                whole = "".join(line + "\n" for line in lines)
                for near in (whole, whole[:-1], whole + "\n", whole.replace("\n", "\r\n"), whole[:-1] + " "):
                    number = wrong_line(near)
                    told[number] = told.get(number, 0) + 1
                    if number is None:
                        self.assertEqual(write_hamlet(read_hamlet(near)), near)
                    else:
                        self.assertEqual(raised(BadText, read_hamlet, near).line, number)
        self.assertTrue(all(told[number] > 20 for number in (None, *range(1, 12))))

    def test_lines_that_are_wrong(self):
        cases = [("", 1), ("\n", 1), ("house a 1", 1), ("house a 1\n\n", 2), ("house a 1\nhouse b 1\n", 3), ("path a b 1\n", 1),
                 ("house a 1\nhouse b 1\nout a b\n", 3), ("house a 1\nhouse b 1\nwatch can", 3), ("house b 1\nhouse a 1\n", 2),
                 ("house a 1\nhouse a 1\n", 2), ("house a 1\nhouse b 1\npath b a 1\n", 3), ("house a 1\nhouse b 1\npath a c 1\n", 3),
                 ("house a 1\nhouse b 1\nhouse c 1\npath b c 1\npath a c 1\n", 5), ("house a 1\nhouse b 1\npath a b 1\npath a b 1\n", 4),
                 ("house a 1\nhouse b 1\nhouse c 1\npath a b 1\npath a c 1\npath b c 1\n", 6), ("house a 1\nout a a\nout a a\n", 3),
                 ("house a 1\nhouse b 1\nhouse c 1\nhouse d 1\npath a b 1\npath c d 1\n", 7),
                 ("house a 1\nhouse b 1\nhouse c 1\nhouse d 1\npath c d 1\n", 6), ("house a 1\nwatch can\nout a a\n", 3),
                 ("house a 1\nout a b\n", 2), ("house a 1\nwatch can\nwatch can\n", 3), ("house a 1\nwatch can\nhold can\n", 3),
                 ("house a 1\nwatch spare a a\n", 2), ("house a 1\nout a a\nhouse b 1\n", 3), ("house a 01\n", 1), ("house a +1\n", 1),
                 ("house a 1_0\n", 1), ("house a 1000000000\n", 1), ("house abcdefghijklm 1\n", 1), ("house 1 1\n", 1),
                 ("house a \u0661\n", 1), ("house a 1\r\n", 1), ("out a a\n", 1), ("watch can\n", 1), (TEXT[:-1], 7), (FULL + "x", 12),
                 (FULL.replace("\n", "\n\n"), 2), ("house a 1\nhouse b 1\npath a b 1\npath a b", 4)]
        for text, number in cases:
            self.assertEqual(raised(BadText, read_hamlet, text).line, number, text)
            self.assertEqual(wrong_line(text), number, text)
        for thing in any_objects():
            if not isinstance(thing, str):
                self.assertEqual(raised(BadText, read_hamlet, thing).line, 0)
        self.assertEqual(raised(BadText, read_hamlet, ["house a 1\n"]).line, 0)

    def test_numbers_of_nine_figures(self):
        text = "house a 999999999\nhouse b 0\npath a b 999999999\nout b a\n"
        self.assertEqual(write_hamlet(read_hamlet(text)), text)
        hamlet = hamlet_of([("build", "a", "b"), ("write", "a", 999999999), ("enter", "b", "a", 999999999)])
        self.assertEqual(read_hamlet(write_hamlet(hamlet)), hamlet)


if __name__ == "__main__":
    unittest.main()
