"""The fewest and the most ends of counts in spans that are some errands'."""

from letterround.villages import path_between
from letterround.ways import rooted


def best_ends(village, spans, worth):
    """The greatest sum of all ends, each times worth, of possible counts in spans, None if there are none."""
    by_path, by_house = spans
    near = village.near()
    root = village.houses()[0]
    tables = {}
    for house, back in reversed(rooted(village, root)):
        least, most = by_house[house]
        signs = [{number: worth * number for number in range(least, most + 1)}]
        signs.extend([tables[other] for other in near[house] if other != back])
        span = (0, 0) if back is None else by_path[path_between(house, back)]
        tables[house] = best_beside(signs, list(range(span[0], span[1] + 1)))
    return tables[root].get(0)


def best_beside(signs, numbers):
    """The dict from those numbers that one sign more can have to the greatest sum of what the others are worth.

    signs are dicts from the numbers that each other one can have to what it is worth with it.
    """
    told = {}
    for most in range(max([max(row, default=0) for row in [*signs, numbers]]) + 1):
        sums = best_sums(signs, most)
        for number in numbers:
            # None is more than most: it is enough that all together are twice that.
            good = [sums[total] for total in sums if (total + number) % 2 == 0 and total + number >= 2 * most]
            if number <= most and good:
                told[number] = max([*good, told.get(number, max(good))])
    return told


def best_sums(signs, most):
    """The dict from sums of numbers, none above a most one, to the greatest worth; great sums count by parity alone."""
    sums = {0: 0}
    for table in signs:
        small = [(number, worth) for number, worth in table.items() if number <= most]
        longer = {}
        for total, so_far in sums.items():
            for number, worth in small:
                whole = total + number
                if whole > 2 * most:
                    whole = 2 * most + whole % 2
                if whole not in longer or longer[whole] < so_far + worth:
                    longer[whole] = so_far + worth
        sums = longer
    return sums
