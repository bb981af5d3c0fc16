"""Bags of letters that are taken at a post office, each brought from there and back."""

from letterround.builtrounds import built_from
from letterround.kinds import ask_from_one
from letterround.letters import all_beyond
from letterround.othervillages import built_on
from letterround.roundlots import is_lot, lot_ledger
from letterround.therule import ask_both, spare
from letterround.villages import ask_house, path_between
from letterround.ways import rooted


def ask_office(village, letters, ledger, house):
    """Raises BadLetters, BadLedger, NoHouse."""
    ask_both(village, letters, ledger)
    ask_house(village, house)


def are_bags(village, letters, ledger, house, thing):
    """Tells of any object whether it is bags of all letters that have the ledger, from an office."""
    ask_office(village, letters, ledger, house)
    if not is_lot(village, letters, thing):
        return False
    gone = lot_ledger(village, [[house, *row] for row in thing])
    return all([gone[path] == ledger[path] for path in gone])


def away_fault(village, letters, ledger, house):
    """What is wrong away from an office, whatever the number of bags is, None if nothing is."""
    further = all_beyond(village, letters)
    wrong = []
    for far, back in rooted(village, house)[1:]:
        path = path_between(far, back)
        if (ledger[path] > 0) != (further[(back, far)] > 0):
            wrong.append(path)
    if wrong:
        return "gone", min(wrong)
    left_over = spare(village, letters, ledger)
    much = [(far, path_between(far, other)) for far, other in left_over if left_over[(far, other)] < 0 and far != house]
    if much:
        return ("much", *min(much))
    return None


def most_bags(village, letters, ledger, house):
    """How many bags there can be at most: each begins with a letter of the office, or with going away."""
    return letters[house] + sum([ledger[path_between(house, other)] for other in village.near()[house]])


def bag_numbers(village, letters, ledger, house):
    """The pair of the least and the greatest number of bags, None if there are none."""
    ask_office(village, letters, ledger, house)
    if away_fault(village, letters, ledger, house) is not None:
        return None
    left_over = spare(village, letters, ledger)
    lacking = [-left_over[(house, other)] for other in village.near()[house]]
    return max(1, max(lacking, default=1)), most_bags(village, letters, ledger, house)


def bag_fault(village, letters, ledger, house, number):
    """Why there are not so many bags, None if there are."""
    ask_office(village, letters, ledger, house)
    ask_from_one(number)
    fault = away_fault(village, letters, ledger, house)
    if fault is not None:
        return fault
    left_over = spare(village, letters, ledger)
    for other in village.near()[house]:
        if left_over[(house, other)] + number < 0:
            return "few", path_between(house, other)
    most = most_bags(village, letters, ledger, house)
    return ("many", most) if number > most else None


def bags_of(village, letters, ledger, house, number):
    """A list of so many bags with the ledger, from an office, None if there is none."""
    if bag_fault(village, letters, ledger, house, number) is not None:
        return None
    # Bags are what a round brings between the letters of one house more, at the office.
    name = unused_name(village)
    path = path_between(house, name)
    whole = built_on(village, house, name)
    row = built_from(whole, {**letters, name: number}, {**ledger, path: number}, name)
    bags = []
    for place in row:
        if place == name:
            bags.append([])
        else:
            bags[-1].append(place)
    return bags


def unused_name(village):
    """The first of some names that no house of the village has."""
    houses = village.houses()
    return [name for name in ["x" + str(number) for number in range(len(houses) + 1)] if name not in houses][0]
