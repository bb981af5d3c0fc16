"""Right ledgers in a box, counted and in order."""

from letterround.boxes import all_numbers, ask_boxed, greatest_in
from letterround.errors import BadIndex, BadLedger
from letterround.kinds import is_number
from letterround.rounds import is_ledger
from letterround.therule import can_be
from letterround.villages import path_between
from letterround.ways import rooted


class Tables:
    """Of each path, seen from either house, in how many ways all that lies beyond goes with each of its numbers."""

    def __init__(self, village, letters, numbers):
        self._village = village
        self.own = letters
        self.numbers = numbers
        self.known = {}

    def fix(self, path, number):
        """Lets a path have one number alone."""
        self.numbers[path] = [number]
        # Only tables of what has the path in it are told anew.
        leading = [path, *rooted(self._village, path[0])[1:]]
        self.known = {pair: self.known[pair] for pair in self.known if pair not in leading}

    def seen_from(self, house, other):
        """The dict from the numbers of the path between to the ways beyond it, seen from house."""
        near = self._village.near()
        ahead = [(house, other)]
        needed = []
        while ahead:
            missing = [pair for pair in ahead if pair not in self.known]
            needed.extend(missing)
            ahead = [(far, third) for place, far in missing for third in near[far] if third != place]
        for place, far in reversed(needed):
            tables = [self.known[(far, third)] for third in near[far] if third != place]
            self.known[(place, far)] = self.ways_beyond(path_between(place, far), self.own[far], tables)
        return self.known[(house, other)]

    def ways_beyond(self, path, own, tables):
        """The dict from a path's numbers to the ways of a house with so much of its own and tables of other paths."""
        rows = rows_of_numbers(tables)
        told = {}
        for number in self.numbers[path]:
            good = [pair for pair in rows if number <= pair[0] + own and 2 * pair[1] <= pair[0] + number + own]
            told[number] = sum([rows[pair] for pair in good])
        return told

    def ways(self, path):
        """The dict from a path's numbers to in how many ledgers it has them."""
        one, other = path
        here = self.seen_from(other, one)
        there = self.seen_from(one, other)
        return {number: here[number] * there[number] for number in self.numbers[path]}


def rows_of_numbers(tables):
    """The dict from pairs (sum, greatest) of rows with a number of each table to how many ways there are with it."""
    rows = {(0, 0): 1}
    for table in tables:
        longer = {}
        for total, most in rows:
            for number in table:
                pair = (total + number, max(most, number))
                longer[pair] = longer.get(pair, 0) + rows[(total, most)] * table[number]
        rows = longer
    return rows


def tables_in(village, letters, box):
    """The tables of the right ledgers in a box of which there is one at least."""
    spans = all_numbers(village, letters, box)
    return Tables(village, letters, {path: list(range(spans[path][0], spans[path][1] + 1)) for path in spans})


def count_in(village, letters, box):
    """How many right ledgers are in a box."""
    if greatest_in(village, letters, box) is None:
        return 0
    if len(village) == 1:
        return 1
    return sum(tables_in(village, letters, box).ways(village.paths()[0]).values())


def ledger_at(village, letters, box, number):
    """The right ledger in a box with an index, in the order of their rows of numbers."""
    many = count_in(village, letters, box)
    if not is_number(number) or number >= many:
        raise BadIndex(number)
    tables = tables_in(village, letters, box)
    ahead = number
    told = {}
    for path in village.paths():
        ways = tables.ways(path)
        for worth in ways:
            if ahead < ways[worth]:
                break
            ahead = ahead - ways[worth]
        told[path] = worth
        tables.fix(path, worth)
    return told


def index_in(village, letters, box, ledger):
    """The index of a right ledger in a box."""
    ask_boxed(village, letters, box)
    if not is_ledger(village, ledger) or not can_be(village, letters, ledger):
        raise BadLedger(ledger)
    if not all([box[path][0] <= ledger[path] <= box[path][1] for path in village.paths()]):
        raise BadLedger(ledger)
    tables = tables_in(village, letters, box)
    index = 0
    for path in village.paths():
        ways = tables.ways(path)
        index += sum([ways[number] for number in ways if number < ledger[path]])
        tables.fix(path, ledger[path])
    return index
