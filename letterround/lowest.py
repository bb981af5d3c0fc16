"""Fractions: pairs (over, under) of integers in lowest terms, under above 0."""

from math import gcd


def lowest(over, under):
    """The fraction of two numbers, the second one above 0."""
    common = gcd(over, under)
    return over // common, under // common


def times(one, other):
    """The product of two fractions."""
    return lowest(one[0] * other[0], one[1] * other[1])


def added(parts):
    """The sum of a list of fractions."""
    over, under = 0, 1
    for more, times_under in parts:
        over, under = lowest(over * times_under + more * under, under * times_under)
    return over, under
