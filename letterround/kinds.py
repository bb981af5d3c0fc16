"""What any object is: a name, an integer, a number, a list, a table of numbers, a function."""

from letterround.errors import BadNumber, PostError

SMALL_LETTERS = "abcdefghijklmnopqrstuvwxyz"
FIGURES = "0123456789"
LONGEST_NAME = 12


class OwnThing:
    """What the classes of the package are, so that their objects can be told from functions."""


def is_name(thing):
    """Tells whether thing is a name of a house."""
    if not isinstance(thing, str) or not 1 <= len(thing) <= LONGEST_NAME:
        return False
    if thing[0] not in SMALL_LETTERS:
        return False
    return all([sign in SMALL_LETTERS or sign in FIGURES for sign in thing])


def is_integer(thing):
    """Tells whether thing is an integer; truths are none."""
    return isinstance(thing, int) and not isinstance(thing, bool)


def is_number(thing):
    """Tells whether thing is an integer from 0 on."""
    return is_integer(thing) and thing >= 0


def ask_from_one(thing):
    """Raises BadNumber for what is no integer from 1 on."""
    if not is_integer(thing) or thing < 1:
        raise BadNumber(thing)


def is_listed(thing):
    """Tells whether thing is a list, or a tuple, which may be passed for one."""
    return isinstance(thing, (list, tuple))


def is_pair(thing):
    """Tells whether thing is a list or a tuple of two things."""
    return is_listed(thing) and len(thing) == 2


def has_just(thing, keys):
    """Tells whether thing is a dict with just these keys, of which no two are alike."""
    if not isinstance(thing, dict) or len(thing) != len(keys):
        return False
    return all([key in thing for key in keys])


def is_table(thing, keys):
    """Tells whether thing is a dict from just these keys to numbers."""
    return has_just(thing, keys) and all([is_number(number) for number in thing.values()])


def is_span(thing):
    """Tells whether thing is a pair (least, most) of numbers, most from least on."""
    return is_pair(thing) and is_number(thing[0]) and is_number(thing[1]) and thing[0] <= thing[1]


def is_span_table(thing, keys):
    """Tells whether thing is a dict from just these keys to pairs (least, most) of numbers."""
    return has_just(thing, keys) and all([is_span(span) for span in thing.values()])


def first_no_number(thing):
    """The index of the first thing that is no number, 0 for no list, None if all are."""
    if not is_listed(thing):
        return 0
    for index, number in enumerate(thing):
        if not is_number(number):
            return index
    return None


def is_function(thing):
    """Tells of any object whether it is a function: none of all the other kinds of objects."""
    if thing is None or isinstance(thing, (int, str, list, tuple, dict)):
        return False
    return not isinstance(thing, OwnThing) and not isinstance(thing, PostError)
