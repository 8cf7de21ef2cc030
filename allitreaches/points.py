"""FRACTIONS and POINTS, and their texts."""

from math import gcd

from allitreaches.errors import BadPoint
from allitreaches.integers import integer_text, is_integer, read_integer


def is_fraction(value):
    """Whether any value is a FRACTION."""
    if not isinstance(value, tuple) or len(value) != 2:
        return False
    top, bottom = value
    if not is_integer(top) or not is_integer(bottom):
        return False
    return bottom >= 1 and gcd(top, bottom) == 1


def is_point(value):
    """Whether any value is a POINT."""
    if not isinstance(value, tuple) or len(value) != 3:
        return False
    return all([is_fraction(part) for part in value])


def check_point(value):
    """Refuses what is no POINT."""
    if not is_point(value):
        raise BadPoint(value)


def is_of_halves(point):
    """Whether all FRACTIONS of the POINT have the bottom 1 or 2."""
    return all([bottom <= 2 for _, bottom in point])


def fraction_text(fraction):
    """The text of a FRACTION: a bottom of 1 is left out."""
    top, bottom = fraction
    if bottom == 1:
        return integer_text(top)
    return integer_text(top) + "/" + integer_text(bottom)


def read_fraction(word):
    """The FRACTION with this text; None if there is none."""
    top, slash, bottom = word.partition("/")
    fraction = (read_integer(top), read_integer(bottom) if slash else 1)
    # Only the text tells 1/1 from 1.
    if is_fraction(fraction) and fraction_text(fraction) == word:
        return fraction
    return None


def point_text(point):
    """The text of a POINT: those of its FRACTIONS, parted by one blank."""
    check_point(point)
    return " ".join([fraction_text(part) for part in point])


def point_told(text):
    """The POINT with this text; None if there is none."""
    point = tuple([read_fraction(word) for word in text.split(" ")])
    return point if is_point(point) else None


def read_point(text):
    """The POINT with this text."""
    point = point_told(text) if isinstance(text, str) else None
    if point is None:
        raise BadPoint(text)
    return point
