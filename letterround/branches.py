"""Branches: parts of a greater village, behind one bare path, and what they let this path have."""

from letterround.balanced import filled
from letterround.errors import BadBoxes, BadLetters, BadNumber, BadPairs
from letterround.kinds import OwnThing, ask_from_one, is_integer, is_listed, is_number, is_pair, is_table
from letterround.othervillages import joined_by
from letterround.villages import ask_house, path_between
from letterround.ways import rooted


class Branch(OwnThing):
    """A part of a greater village: from its house rim the bare path leads to what is around; it never changes."""

    def __init__(self, village, rim, letters, boxes):
        ask_house(village, rim)
        ask_inner(village, letters, boxes)
        self._village = village
        self._rim = rim
        self._letters = {house: letters[house] for house in village.houses()}
        self._boxes = told_boxes(village, boxes)

    def village(self):
        """The village of the branch's houses."""
        return self._village

    def rim(self):
        """The house with the bare path."""
        return self._rim

    def letters(self):
        """The dict from all houses to how many letters they get, perhaps all 0."""
        return dict(self._letters)

    def boxes(self):
        """The dict from all paths to pairs (least, most), most None where nothing bounds."""
        return {path: self._boxes[path] for path in self._boxes}

    def __eq__(self, other):
        if not isinstance(other, Branch):
            return False
        return (self._village == other._village and self._rim == other._rim and self._letters == other._letters
                and self._boxes == other._boxes)


def ask_inner(village, letters, boxes):
    """Raises BadLetters for no dict from just all houses to numbers, BadBoxes for no dict from paths to pairs."""
    if not is_table(letters, village.houses()):
        raise BadLetters(letters)
    if not isinstance(boxes, dict):
        raise BadBoxes(boxes)
    paths = village.paths()
    if not all([path in paths and is_loose_span(boxes[path]) for path in boxes]):
        raise BadBoxes(boxes)


def is_loose_span(thing):
    """Tells whether thing is a pair (least, most) of numbers, most from least on, or None, which bounds nothing."""
    if not is_pair(thing) or not is_number(thing[0]):
        return False
    return thing[1] is None or (is_number(thing[1]) and thing[0] <= thing[1])


def told_boxes(village, boxes):
    """The boxes of all paths, (0, None) where nothing is told."""
    return {path: tuple(boxes[path]) if path in boxes else (0, None) for path in village.paths()}


def put_together(number, pairs):
    """The pair that is let behind a house with so many letters and the pairs behind it, None if one of these is."""
    if None in pairs:
        return None
    most = number + sum([high for low, high in pairs])
    if most == 0:
        return 0, 0
    least = max([low + high - most for low, high in pairs], default=1)
    return max(1, least), most


def cut_by(pair, box):
    """What a path's box leaves of the pair behind it, None if nothing."""
    if pair is None:
        return None
    least = max(pair[0], box[0])
    most = pair[1] if box[1] is None else min(pair[1], box[1])
    return (least, most) if least <= most else None


def pairs_towards(village, letters, boxes, row):
    """The dict from all pairs (house, one beside it further from the houses of a row) to what is let between."""
    near = village.near()
    let = {}
    for house, back in reversed(rooted(village, row[0])):
        if house not in row:
            pairs = [let[(house, other)] for other in near[house] if other != back]
            let[(back, house)] = cut_by(put_together(letters[house], pairs), boxes[path_between(house, back)])
    return let


def pairs_of_branch(branch):
    """What is let within a branch, seen from its rim."""
    return pairs_towards(branch.village(), branch.letters(), branch.boxes(), [branch.rim()])


def bare_pair(branch):
    """The pair (least, most) of how often the bare path may be gone, (0, 0) without letters, None if nothing is let."""
    let = pairs_of_branch(branch)
    rim = branch.rim()
    return put_together(branch.letters()[rim], [let[(rim, other)] for other in branch.village().near()[rim]])


def inner_ledger(branch, number):
    """An inner ledger of a branch with the bare path gone so often, None if the number is not let."""
    ask_from_one(number)
    pair = bare_pair(branch)
    if pair is None or not pair[0] <= number <= pair[1]:
        return None
    let = pairs_of_branch(branch)
    mosts = {key: let[key][1] for key in let}
    return filled(branch.village(), branch.rim(), branch.letters(), mosts, number)


def is_let_pair(thing):
    """Tells whether thing is a pair (least, most) of integers, 1 at least, most from least on."""
    return is_pair(thing) and is_integer(thing[0]) and is_integer(thing[1]) and 1 <= thing[0] <= thing[1]


def is_no_letter_pair(thing):
    """Tells whether thing is the pair (0, 0)."""
    return is_pair(thing) and all([is_integer(number) and number == 0 for number in thing])


def pair_at(number, pairs):
    """The pair that is let behind a house with so many letters and these pairs behind it."""
    if not is_number(number):
        raise BadNumber(number)
    if not is_listed(pairs):
        raise BadPairs(0)
    for index, pair in enumerate(pairs):
        if not is_let_pair(pair) and not is_no_letter_pair(pair):
            raise BadPairs(index)
    return put_together(number, pairs)


def hung(one, house, other, box):
    """The branch one with other's rim beside its house, the path between in a box."""
    village = joined_by(one.village(), other.village(), house, other.rim())
    if not is_loose_span(box):
        raise BadBoxes(box)
    letters = one.letters()
    further = other.letters()
    boxes = one.boxes()
    more = other.boxes()
    path = path_between(house, other.rim())
    return Branch(village, one.rim(), {**letters, **further}, {**boxes, **more, path: box})
