"""Sums with FRACTIONS."""

from math import gcd


def ratio(top, bottom):
    """The FRACTION top / bottom, bottom being any integer but 0."""
    by = gcd(top, bottom) if bottom > 0 else -gcd(top, bottom)
    return (top // by, bottom // by)


def difference(one, other):
    """One FRACTION less the other."""
    return ratio(one[0] * other[1] - other[0] * one[1], one[1] * other[1])


def is_less(one, other):
    """Whether one FRACTION is less than the other."""
    return one[0] * other[1] < other[0] * one[1]


def lesser(one, other):
    """The one of two FRACTIONS that is not the greater one."""
    return other if is_less(other, one) else one


def greater(one, other):
    """The one of two FRACTIONS that is not the lesser one."""
    return other if is_less(one, other) else one


def middle(one, other):
    """The FRACTION halfway between the two."""
    return ratio(one[0] * other[1] + other[0] * one[1], 2 * one[1] * other[1])
