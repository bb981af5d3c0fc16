"""How a round that is begun stands: what is left of each house's signs, which was the first and the last."""

from letterround.errors import BadBegun
from letterround.kinds import is_listed
from letterround.therule import ask_both
from letterround.villages import is_house, path_between
from letterround.ways import signs_from
from letterround.words import count_tied


class Standing:
    """Of each house the dict from its signs to how many are left, the first and the last sign begun."""

    def __init__(self, seen, left, head, tail):
        self.seen = seen
        self.left = left
        self.head = head
        self.tail = tail

    def bring(self, house):
        """Brings a letter for house."""
        for place in self.seen:
            sign = self.seen[place][house]
            if sign == place or sign != self.tail[place]:
                self.left[place][sign] -= 1
            if self.head[place] is None:
                self.head[place] = sign
            self.tail[place] = sign

    def behind(self, house):
        """A new standing, that behind a letter more, for house."""
        left = {place: {sign: self.left[place][sign] for sign in self.left[place]} for place in self.seen}
        told = Standing(self.seen, left, dict(self.head), dict(self.tail))
        told.bring(house)
        return told

    def houses_left(self):
        """The ascending list of the houses with letters left."""
        return [place for place in self.seen if self.left[place][place] > 0]

    def fixed(self, place):
        """The dict from a house's paths' signs to how many of both ends of what is left there are tied to it."""
        ends = [self.tail[place], self.head[place]]
        return {sign: ends.count(sign) for sign in self.left[place] if sign != place}

    def is_closed(self, place):
        """Tells whether at a house the first and the last sign are one of the ring, and nothing else is left."""
        left = self.left[place]
        over = [sign for sign in left if left[sign] != 0]
        if len(over) != 1 or over[0] == place:
            return False
        return left[over[0]] == -1 and self.fixed(place)[over[0]] == 2

    def can_end_at(self, place):
        """Tells whether what is left of a house's signs can be put behind what is begun."""
        left = self.left[place]
        if self.is_closed(place):
            return True
        fixed = self.fixed(place)
        total = sum(left.values())
        return not any([left[sign] < 0 or left[sign] + fixed[sign] > 1 + total - left[sign] for sign in fixed])

    def can_end(self):
        """Tells whether what is begun, a letter at least, can go on to a round, or is one."""
        return all([self.can_end_at(place) for place in self.seen])

    def ends_at(self, place):
        """In how many ways what is left of a house's signs can be put behind what is begun, if it can."""
        left = self.left[place]
        if self.is_closed(place):
            return 1
        fixed = self.fixed(place)
        return count_tied([left[sign] + fixed[sign] for sign in fixed], list(fixed.values()), left[place])

    def count_ends(self):
        """In how many ways what is begun, a letter at least, can go on to a round; 1 if it is one."""
        if not self.can_end():
            return 0
        ways = 1
        for place in self.seen:
            ways = ways * self.ends_at(place)
        return ways


def standing_at_first(village, letters, ledger):
    """The standing ahead of the first letter."""
    houses = village.houses()
    left = {}
    for house in houses:
        left[house] = {other: ledger[path_between(house, other)] for other in village.near()[house]}
        left[house][house] = letters[house]
    seen = {house: signs_from(village, house) for house in houses}
    return Standing(seen, left, {house: None for house in houses}, {house: None for house in houses})


def ask_begun(village, letters, begun):
    """Raises BadBegun for what is no list of houses, none of them more often than it gets letters."""
    if not is_listed(begun):
        raise BadBegun(0)
    brought = {house: 0 for house in letters}
    for index, house in enumerate(begun):
        if not is_house(village, house) or brought[house] == letters[house]:
            raise BadBegun(index)
        brought[house] += 1


def standing_of(village, letters, ledger, begun):
    """The standing behind what is begun; it raises BadLetters, BadLedger, BadBegun."""
    ask_both(village, letters, ledger)
    ask_begun(village, letters, begun)
    standing = standing_at_first(village, letters, ledger)
    for house in begun:
        standing.bring(house)
    return standing
