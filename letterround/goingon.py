"""How a round that is begun can go on, and pickers that are asked for it letter by letter."""

from letterround.errors import BadPicker
from letterround.kinds import is_function
from letterround.standing import ask_begun, standing_at_first, standing_of
from letterround.therule import ask_both, can_be
from letterround.villages import is_house


def next_houses(village, letters, ledger, begun):
    """The ascending list of the houses with which what is begun can go on."""
    return next_of(standing_of(village, letters, ledger, begun))


def next_of(standing):
    """The ascending list of the houses with which what stands so can go on."""
    return [house for house in standing.houses_left() if standing.behind(house).can_end()]


def lost_at(village, letters, ledger, begun):
    """The least number of first letters that cannot become a round, None if what is begun can, or is one."""
    ask_both(village, letters, ledger)
    ask_begun(village, letters, begun)
    if not can_be(village, letters, ledger):
        return 0
    standing = standing_at_first(village, letters, ledger)
    for index, house in enumerate(begun):
        standing.bring(house)
        if not standing.can_end():
            return index + 1
    return None


def run_picker(village, letters, ledger, picker):
    """Asks a picker for house behind house: the pair of the row and how it ends."""
    ask_both(village, letters, ledger)
    if not is_function(picker):
        raise BadPicker(picker)
    standing = standing_at_first(village, letters, ledger)
    row = []
    while standing.houses_left():
        left = {place: standing.left[place][place] for place in standing.seen}
        house = picker(tuple(row), left)
        if not is_house(village, house) or standing.left[house][house] == 0:
            return row, "odd"
        row.append(house)
        standing.bring(house)
        if not standing.can_end():
            return row, "lost"
    return row, "done"
