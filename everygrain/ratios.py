"""Fractions: tuples (n, d) of integers without a common divisor, d above 0 [56]."""

from math import gcd

from everygrain.errors import InvalidFraction
from everygrain.kinds import is_integer


def _is_pair(value):
    return isinstance(value, tuple) and len(value) == 2 and is_integer(value[0]) and is_integer(value[1])


def is_fraction(value):
    """Tell whether any value is a fraction."""
    return _is_pair(value) and value[1] > 0 and gcd(value[0], value[1]) == 1


def fraction(n, d):
    """The fraction n / d."""
    pair = (n, d)
    if not _is_pair(pair) or d == 0:
        raise InvalidFraction(pair)
    return _reduced(n, d)


def _reduced(n, d):
    shared = gcd(n, d)
    if d < 0:
        shared = -shared
    return n // shared, d // shared


def _ask_both(one, other):
    for value in (one, other):
        if not is_fraction(value):
            raise InvalidFraction(value)


def plus(one, other):
    """The sum of two fractions."""
    _ask_both(one, other)
    return _reduced(one[0] * other[1] + other[0] * one[1], one[1] * other[1])


def minus(one, other):
    """The difference of two fractions."""
    _ask_both(one, other)
    return _reduced(one[0] * other[1] - other[0] * one[1], one[1] * other[1])


def times(one, other):
    """The product of two fractions."""
    _ask_both(one, other)
    return _reduced(one[0] * other[0], one[1] * other[1])


def by(one, other):
    """The quotient of two fractions, or None if the other one is 0."""
    _ask_both(one, other)
    if other[0] == 0:
        return None
    return _reduced(one[0] * other[1], one[1] * other[0])


def compared(one, other):
    """-1, 0 or 1 if the one is less than, equal to, or greater than the other one."""
    _ask_both(one, other)
    left, right = one[0] * other[1], other[0] * one[1]
    if left < right:
        return -1
    if left > right:
        return 1
    return 0
