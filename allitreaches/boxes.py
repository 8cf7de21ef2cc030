"""BOXES: their texts, and what is told of them alone."""

from allitreaches.errors import BadBox, BadBoxes, BadCorner
from allitreaches.integers import integer_text, is_integer, read_integer
from allitreaches.points import check_point


def axes(box):
    """The two numbers of a BOX on each axis."""
    x0, x1, y0, y1, z0, z1 = box
    return ((x0, x1), (y0, y1), (z0, z1))


def box_of(spans):
    """The BOX, or what is in its place, with these numbers on each axis."""
    return tuple([number for span in spans for number in span])


def is_box(value):
    """Whether any value is a BOX."""
    if not isinstance(value, tuple) or len(value) != 6:
        return False
    if not all([is_integer(number) for number in value]):
        return False
    return all([low < high for low, high in axes(value)])


def check_box(value):
    """Refuses what is no BOX."""
    if not is_box(value):
        raise BadBox(value)


def is_corner(value):
    """Whether any value is a tuple of three integers."""
    if not isinstance(value, tuple) or len(value) != 3:
        return False
    return all([is_integer(number) for number in value])


def _span_text(low, high):
    return integer_text(low) + ".." + integer_text(high)


def box_text(box):
    """The text of a BOX: its two numbers on each axis, parted by one blank."""
    check_box(box)
    return " ".join([_span_text(low, high) for low, high in axes(box)])


def _read_span(word):
    """The two numbers of the word, None for each that is no integer."""
    low, _, high = word.partition("..")
    return (read_integer(low), read_integer(high))


def box_told(text):
    """The BOX with this text; None if there is none."""
    box = box_of([_read_span(word) for word in text.split(" ")])
    return box if is_box(box) else None


def read_box(text):
    """The BOX with this text."""
    box = box_told(text) if isinstance(text, str) else None
    if box is None:
        raise BadBox(text)
    return box


def corner_told(text):
    """The three integers of this text, parted by one blank; None if it has no such form."""
    corner = tuple([read_integer(word) for word in text.split(" ")])
    return corner if is_corner(corner) else None


def moved(box, corner):
    """The BOX moved by so much on each axis."""
    check_box(box)
    if not is_corner(corner):
        raise BadCorner(corner)
    return box_of([(low + by, high + by) for (low, high), by in zip(axes(box), corner)])


def grown(box, by):
    """The BOX within which are the places at which by has a spot of box within it."""
    check_box(box)
    check_box(by)
    return box_of([(low - far, high - near) for (low, high), (near, far) in zip(axes(box), axes(by))])


def _where_on_axis(low, high, fraction):
    """1 between low and high, 0 at one of them, -1 beyond."""
    top, bottom = fraction
    if low * bottom < top < high * bottom:
        return 1
    if low * bottom == top or top == high * bottom:
        return 0
    return -1


def where(box, point):
    """1 for a POINT within the BOX, 0 for one on its rim, -1 for others."""
    check_box(box)
    check_point(point)
    return min([_where_on_axis(low, high, part) for (low, high), part in zip(axes(box), point)])


def clash(one, other):
    """Whether a spot lies within both BOXES."""
    check_box(one)
    check_box(other)
    return all([max(low, near) < min(high, far) for (low, high), (near, far) in zip(axes(one), axes(other))])


def hull(boxes):
    """The least BOX in which all these BOXES lie."""
    if not isinstance(boxes, tuple) or not boxes or not all([is_box(box) for box in boxes]):
        raise BadBoxes(boxes)
    lows = [min([box[at] for box in boxes]) for at in (0, 2, 4)]
    highs = [max([box[at] for box in boxes]) for at in (1, 3, 5)]
    return box_of(list(zip(lows, highs)))


def volume(box):
    """How many cubes of side 1 the BOX has."""
    check_box(box)
    filled = 1
    for low, high in axes(box):
        filled = filled * (high - low)
    return filled
