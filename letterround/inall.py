"""How many letters in all the pairs of letters and ledgers in a box have."""

from letterround.letterboxes import ask_spanned, hull_of, rooms_of, sides, span_of
from letterround.ways import rooted


def letters_between(village, box):
    """The pair (least, most) of how many letters the pairs in a box have in all."""
    ask_spanned(village, box)
    hull = hull_of(village, box)[0]
    rooms = rooms_of(village, box, hull)
    return fewest_in(village, box, hull[0], rooms), sum(rooms.values())


def fewest_in(village, box, root, rooms):
    """The least number of letters that pairs in a box have in all, root being a house of the hull."""
    found = sides(village, box)
    tables = {house: [] for house in village.houses()}
    fewest = 0
    for house, back in reversed(rooted(village, root)):
        rows = fewest_by_rows(tables[house])
        least = box[0][house][0]
        if back is None:
            fewest = fewest_behind(rows, least, rooms[house], 0)
        else:
            tables[back].append(fewest_by_number(rows, least, rooms[house], span_of(found, house, back)))
    return fewest


def fewest_by_number(rows, least, room, span):
    """The dict from the numbers of a path to the fewest letters beyond: of a house and of all further ones."""
    low, high = span
    # Where a path is not gone nothing is beyond.
    table = {0: 0} if low == 0 else {}
    for number in range(max(low, 1), high + 1):
        fewest = fewest_behind(rows, least, room, number)
        if fewest is not None:
            table[number] = fewest
    return table


def fewest_by_rows(tables):
    """The dict from pairs (sum, greatest) of rows with a number of each table to the fewest letters behind them."""
    rows = {(0, 0): 0}
    for table in tables:
        longer = {}
        for total, most in rows:
            for number in table:
                pair = (total + number, max(most, number))
                many = rows[(total, most)] + table[number]
                longer[pair] = min(many, longer.get(pair, many))
        rows = longer
    return rows


def fewest_behind(rows, least, room, number):
    """The fewest letters of a house and all further ones, if the path towards the root is gone so often; else None."""
    told = []
    for total, most in rows:
        own = max(least, 2 * most - total - number, number - total)
        if own <= room:
            told.append(rows[(total, most)] + own)
    return min(told, default=None)
