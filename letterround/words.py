"""Rows of signs of which no two of one kind stand side by side, counted."""

from math import comb

from letterround.errors import BadNumber, BadNumbers
from letterround.kinds import first_no_number, is_number


def ask_words(signs, free):
    """Raises BadNumbers for what are no counts of signs, BadNumber for what is no number."""
    index = first_no_number(signs)
    if index is not None:
        raise BadNumbers(index)
    if not is_number(free):
        raise BadNumber(free)


def count_words(signs, free):
    """How many rows there are of just these signs and free ones."""
    ask_words(signs, free)
    return count_tied(signs, [0] * len(signs), free)


def count_framed(signs, free):
    """How many of these rows begin with kind 0, and do not end with it."""
    ask_words(signs, free)
    if len(signs) == 0 or signs[0] == 0:
        return 0
    # Not to end with kind 0 is to have room for one more behind.
    return count_tied([signs[0] + 1, *signs[1:]], [2] + [0] * (len(signs) - 1), free)


def count_tied(signs, tied, free):
    """How many rows there are of which so many ends are of each kind, as tied tells: 0, 1 or 2 of both.

    A kind of which both ends are has two signs at least. Signs of one kind side by side are taken as
    one block: with a minus for each that a block has more than one, rows with such cancel out.
    """
    if 2 in tied and sum(signs) == signs[tied.index(2)] and free == 0:
        return 0
    ways = [1]
    for many, ends in zip(signs, tied):
        if many > 0:
            ways = with_blocks(ways, many, ends)
    return sum([number * comb(free + size, free) for size, number in enumerate(ways)])


def with_blocks(ways, many, ends):
    """From how many rows of so many blocks there are to those with a kind more, blocks at the ends not counted in."""
    told = [0] * (len(ways) + many - ends)
    for blocks in range(max(1, ends), many + 1):
        inner = blocks - ends
        worth = comb(many - 1, blocks - 1)
        if (many - blocks) % 2 == 1:
            worth = -worth
        for size, number in enumerate(ways):
            told[size + inner] += number * worth * comb(size + inner, inner)
    return told
