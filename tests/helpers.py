"""What the tests share: small villages, all their rounds gone through one by one, and any objects."""

from functools import lru_cache
from itertools import product

from letterround.errors import NoHouse, PostError
from letterround.villages import Village

HOUSES = ["a", "b", "c", "d"]
PATHS = [("a", "b"), ("b", "c"), ("b", "d")]
LETTERS = {"a": 2, "b": 1, "c": 1, "d": 1}
LEDGER = {("a", "b"): 2, ("b", "c"): 1, ("b", "d"): 1}
ROUND = ["a", "c", "b", "a", "d"]


def star():
    """The document's own village."""
    return Village(HOUSES, PATHS)


def lone():
    return Village(["x"], [])


def two():
    return Village(["x", "a"], [("x", "a")])


def chain():
    return Village(["a", "b", "c", "d"], [("c", "b"), ("d", "a"), ("a", "c")])


def tree():
    return Village(["a", "b", "c", "d", "e"], [("a", "c"), ("b", "c"), ("c", "d"), ("d", "e")])


VILLAGES = (star, lone, two, chain, tree)


def long_row(number, village):
    """A row of so many houses, in a mixed order, some of them often, some perhaps never."""
    houses = village.houses()
    places = [(7 * place * place + 3 * place) if place % 3 else place for place in range(number)]
    return [houses[place % len(houses)] for place in places]


def great_village(number, kind):
    """A village of so many houses: a chain, a star, or a tree that branches."""
    houses = [f"h{place}" for place in range(number)]
    paths = []
    for place in range(1, number):
        back = {"chain": place - 1, "star": 0, "tree": (place - 1) // 3}[kind]
        paths.append((houses[place], houses[back]))
    return Village(houses, paths)


def any_objects():
    """Objects of every kind that the document calls any: no letters, ledgers, rounds, numbers of the small villages."""
    deep = []
    for _ in range(100):
        deep = [deep]
    return [None, True, False, -1, -7, "", "A", "zz", "a b", [None], [True], [1], ["zz"], [["a"]], ("zz", "a"),
            {}, {"zz": 1}, {1: 1}, {None: None}, {("a", "b"): "x"}, {"a": 1}, [{}], [("a", "a")], [("a", "b", "c")],
            deep, any_objects, lambda: 0, star(), PostError(), NoHouse("a")]


def bad_tables(good):
    """Dicts near to a good one from keys to numbers, none of them right."""
    told = []
    for key in good:
        told.append({other: good[other] for other in good if other != key})
        for number in (-1, True, False, None, "1", [1]):
            told.append({**good, key: number})
    for key in ("zz", 1, None, ("b", "a"), ("a", "zz"), ("a",), ("a", "c")):
        if key not in good:
            told.append({**good, key: 1})
    if good:
        first = next(iter(good))
        changed = {key: good[key] for key in good if key != first}
        if isinstance(first, tuple):
            told.append({**changed, first[::-1]: good[first]})
        told.append({**changed, "zz": good[first]})
    return told + [list(good), list(good.items()), tuple(good.values())]


def bad_spans(good):
    """Dicts near to a good one from keys to pairs (least, most), none of them right."""
    told = []
    for key in good:
        told.append({other: good[other] for other in good if other != key})
        for span in (1, None, "01", (), (0,), (0, 1, 2), (2, 1), (-1, 1), (0, None), (None, None), (True, 1), (0, True),
                     ("0", 1), (0, [1]), {0: 1, 1: 2}):
            told.append({**good, key: span})
    for key in ("zz", 1, None, ("b", "a"), ("a", "zz"), ("a",), ("a", "c")):
        if key not in good:
            told.append({**good, key: (0, 1)})
    if good:
        first = next(iter(good))
        changed = {key: good[key] for key in good if key != first}
        if isinstance(first, tuple):
            told.append({**changed, first[::-1]: good[first]})
        told.append({**changed, "zz": good[first]})
    return told + [list(good), list(good.items()), tuple(good.values())]


def naive_way(village, one, other, back=None):
    """The way from one to other, found by trying."""
    if one == other:
        return [one]
    for path in village.paths():
        if one in path:
            far = path[0] if path[1] == one else path[1]
            if far != back:
                rest = naive_way(village, far, other, one)
                if rest:
                    return [one] + rest
    return []


@lru_cache(maxsize=None)
def _ways_of(houses, paths):
    village = Village(list(houses), list(paths))
    return {(one, other): naive_way(village, one, other) for one in houses for other in houses}


def naive_ways(village):
    """The dict from all pairs of houses to the ways between them."""
    return _ways_of(tuple(village.houses()), tuple(village.paths()))


def naive_walk(village, row):
    """The walk along a row, step by step."""
    ways = naive_ways(village)
    walk = [row[0]]
    for one, other in zip(row, row[1:]):
        walk += ways[(one, other)][1:]
    return walk


def naive_ledger(village, row):
    """The numbers of a round's ledger, paths ascending."""
    walk = naive_walk(village, list(row) + [row[0]])
    steps = list(zip(walk, walk[1:]))
    return tuple(steps.count(path) for path in village.paths())


def naive_passes(village, row):
    """The dict from all paths to how often a course goes them."""
    walk = naive_walk(village, list(row))
    steps = [tuple(sorted(step)) for step in zip(walk, walk[1:])]
    return {path: steps.count(path) for path in village.paths()}


def rows_of(left):
    """All rows of the houses in a dict, each as often as it tells, ascending."""
    if not any(left.values()):
        yield []
    for house in sorted(left):
        if left[house]:
            for row in rows_of({**left, house: left[house] - 1}):
                yield [house] + row


@lru_cache(maxsize=None)
def _by_ledger(houses, paths, numbers):
    village = Village(list(houses), list(paths))
    told = {}
    for row in rows_of(dict(zip(houses, numbers))):
        told.setdefault(naive_ledger(village, row), []).append(row)
    return told


def rounds_by_ledger(village, letters):
    """The dict from the numbers of ledgers to all rounds with these letters that have it, ascending."""
    numbers = tuple(letters[house] for house in village.houses())
    return _by_ledger(tuple(village.houses()), tuple(village.paths()), numbers)


def all_letters(village, most):
    """All letters of a village, so many together at most."""
    houses = village.houses()
    for numbers in product(range(most + 1), repeat=len(houses)):
        if 0 < sum(numbers) <= most:
            yield dict(zip(houses, numbers))


def all_ledgers(village, most):
    """All ledgers of a village with so much at each path at most."""
    for numbers in product(range(most + 1), repeat=len(village.paths())):
        yield dict(zip(village.paths(), numbers))


def small_cases(most):
    """All pairs of a small village and letters of it, a letter fewer where there are five houses."""
    for make in VILLAGES:
        village = make()
        for letters in all_letters(village, most - 1 if len(village) > 4 else most):
            yield village, letters


def ledgers_there(village, letters):
    """The list of all ledgers that rounds with these letters have."""
    return [dict(zip(village.paths(), numbers)) for numbers in rounds_by_ledger(village, letters)]


def turned(row):
    """All rows that a row is, begun at each place."""
    return [list(row[start:]) + list(row[:start]) for start in range(len(row))]


def raised(error, function, *args, **more):
    """The error of just this class that a call raises."""
    try:
        function(*args, **more)
    except PostError as found:
        assert found.__class__ is error, (error.__name__, found.__class__.__name__, function.__name__)
        return found
    raise AssertionError(f"{function.__name__} raises no {error.__name__}")
