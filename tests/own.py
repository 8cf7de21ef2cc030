"""The tests' own reckoning: CELLS, places and turns by fractions and plain sets, without the program.

A CELL is told by the two ends of its span on each axis: a number is (k, k), a gap (k, k + 1) without its ends.
Tools, parts and stocks are tuples of BOXES as in the program.
"""

import functools
import itertools
from fractions import Fraction


def axes(box):
    return (box[:2], box[2:4], box[4:])


def is_gap(index):
    return index % 2 == 1


def ends(index):
    """The ends of the span of an index."""
    return (index // 2, index // 2 + 1) if is_gap(index) else (index // 2, index // 2)


def numbers(point):
    """The three Fractions of a POINT."""
    return tuple(Fraction(top, bottom) for top, bottom in point)


def point_of(row):
    """The POINT of three numbers."""
    return tuple(Fraction(number).as_integer_ratio() for number in row)


def index_of(number):
    low = number.__floor__()
    return 2 * low if low == number else 2 * low + 1


def cell_at(row):
    """The CELL of three numbers."""
    return tuple(index_of(Fraction(number)) for number in row)


def sample_of(cell):
    """The numbers and the middles of the gaps of a CELL."""
    return tuple(Fraction(index, 2) for index in cell)


def at_rim(one, other):
    """Whether the one CELL lies at the rim of the other, as the document tells it."""
    if one == other:
        return False
    return all(a == b or (a % 2 == 0 and abs(a - b) == 1) for a, b in zip(one, other))


def touch(one, other):
    return at_rim(one, other) or at_rim(other, one)


NEAR = list(itertools.product((-1, 0, 1), repeat=3))


def near(cell):
    """All CELLS that differ by one at most, this one too."""
    return [tuple(index + by for index, by in zip(cell, step)) for step in NEAR]


def rims(cell):
    return [other for other in near(cell) if at_rim(other, cell)]


@functools.lru_cache(maxsize=None)
def touching(cell):
    return [other for other in near(cell) if touch(other, cell)]


def pieces(cells):
    """The sets of CELLS that hang together, by their least ones."""
    left = set(cells)
    found = []
    for first in sorted(cells):
        if first in left:
            left.discard(first)
            piece, waiting = {first}, [first]
            while waiting:
                for other in touching(waiting.pop()):
                    if other in left:
                        left.discard(other)
                        piece.add(other)
                        waiting.append(other)
            found.append(piece)
    return found


def block(box):
    """All CELLS near to a BOX, and some beyond."""
    return itertools.product(*[range(2 * low - 3, 2 * high + 4) for low, high in axes(box)])


def lies_in(box, row):
    return all(low <= number <= high for (low, high), number in zip(axes(box), row))


def lies_within(box, row):
    return all(low < number < high for (low, high), number in zip(axes(box), row))


@functools.lru_cache(maxsize=None)
def cells_in(boxes):
    """The CELLS whose samples lie in a BOX."""
    return frozenset(cell for box in boxes for cell in block(box) if lies_in(box, sample_of(cell)))


def cells_within(boxes):
    return {cell for box in boxes for cell in block(box) if lies_within(box, sample_of(cell))}


def comes_within(span, place, spot):
    """Whether, on an axis, some spot lies between both ends of the span moved by some place."""
    (near_end, far_end), (p0, p1), (s0, s1) = span, ends(place), ends(spot)
    low, high = s0 - p1, s1 - p0
    if low == high:
        return near_end < low < far_end
    # All differences between these two, without them: whole numbers, so one is met or there is none.
    return max(low, near_end) < min(high, far_end)


@functools.lru_cache(maxsize=None)
def spots_on_axis(span, place):
    return [spot for spot in range(place + 2 * span[0] - 3, place + 2 * span[1] + 4) if comes_within(span, place, spot)]


def spots_of(box, place):
    """The CELLS of which a spot lies within the BOX at some place of this CELL."""
    return itertools.product(*[spots_on_axis(span, index) for span, index in zip(axes(box), place)])


def swept(cells, boxes):
    return {spot for place in cells for box in boxes for spot in spots_of(box, place)}


@functools.lru_cache(maxsize=None)
def places_on_axis(span, spot):
    return [place for place in range(spot - 2 * span[1] - 3, spot - 2 * span[0] + 4) if comes_within(span, place, spot)]


def places_of(box, spot):
    """The CELLS of places at some of which a spot of this CELL lies within the BOX."""
    return itertools.product(*[places_on_axis(span, index) for span, index in zip(axes(box), spot)])


def meeting(cells, boxes):
    return {place for spot in cells for box in boxes for place in places_of(box, spot)}


def with_box(box, row, other):
    """Whether some spot lies within the BOX, moved by three numbers, and in the other BOX."""
    return all(low + by < far and near < high + by
               for (low, high), by, (near, far) in zip(axes(box), row, axes(other)))


def with_cell(box, row, cell):
    """Whether some spot of the CELL lies within the BOX, moved by three numbers."""
    for (low, high), by, index in zip(axes(box), row, cell):
        first, last = ends(index)
        if first == last and not low + by < first < high + by:
            return False
        if first != last and not max(low + by, first) < min(high + by, last):
            return False
    return True


def bars(part, stands, tool, row):
    """What bars a place, told by three numbers: stands are CELLS."""
    found = []
    for word, boxes in zip(("cutter", "holder"), tool):
        for (b, box), (a, kept) in itertools.product(enumerate(boxes), enumerate(part)):
            if with_box(box, row, kept):
                found.append((word, b, a))
    for b, box in enumerate(tool[1]):
        found += [("stands", b, cell) for cell in sorted(stands) if with_cell(box, row, cell)]
    return found


def stands_at(part, stands, tool, row):
    """Whether the tool can stand at a place, told by three numbers."""
    if any(with_box(box, row, kept) for boxes in tool for box in boxes for kept in part):
        return False
    return not any(with_cell(box, row, cell) for box in tool[1] for cell in stands)


def top_of(part, stock):
    return max(box[5] for box in part + stock)


def lowest_outside(part, stock, tool):
    """The least z at which all BOXES of the tool lie at the top or above it."""
    return top_of(part, stock) - min(box[4] for box in tool[0] + tool[1])


def room(part, stock, tool):
    found = []
    for axis in range(3):
        spans = [(axes(a)[axis], axes(b)[axis]) for a in part + stock for b in tool[0] + tool[1]]
        found += [min(a[0] - b[1] for a, b in spans) - 1, max(a[1] - b[0] for a, b in spans) + 1]
    return tuple(found)


def cells_of_room(part, stock, tool):
    return itertools.product(*[range(2 * low, 2 * high + 1) for low, high in axes(room(part, stock, tool))])


def free(part, stock, stands, tool):
    """The CELLS of the ROOM on which the tool can stand."""
    barred = meeting(cells_in(part), tool[0] + tool[1]) | meeting(stands, tool[1])
    return {cell for cell in cells_of_room(part, stock, tool) if cell not in barred}


def reach(part, stock, stands, tool):
    """The CELLS of the ROOM to which it comes from outside, going on from CELL to CELL."""
    way_on = free(part, stock, stands, tool)
    lowest = 2 * lowest_outside(part, stock, tool)
    waiting = [cell for cell in way_on if cell[2] >= lowest]
    found = set(waiting)
    while waiting:
        for other in touching(waiting.pop()):
            if other in way_on and other not in found:
                found.add(other)
                waiting.append(other)
    return found


def stages(part, stock, stands, tool):
    """What stands, and what is left each time when it went over its reach."""
    rows = [set(stands)]
    while True:
        left = rows[-1] - swept(reach(part, stock, rows[-1], tool), tool[0])
        if left == rows[-1]:
            return rows
        rows.append(left)


def behind(part, stock, stands, tool):
    return stages(part, stock, stands, tool)[-1]


def bounds_crossed(one, other):
    """The moments from 0 to 1 at which a number of the place is whole, and those halfway between them."""
    moments = {Fraction(0), Fraction(1)}
    for start, end in zip(one, other):
        if start != end:
            low, high = sorted((start, end))
            for whole in range(low.__ceil__(), high.__floor__() + 1):
                moments.add((whole - start) / (end - start))
    rows = sorted(moments)
    return sorted(rows + [(a + b) / 2 for a, b in zip(rows, rows[1:])])


def at_moment(one, other, moment):
    return tuple(start + moment * (end - start) for start, end in zip(one, other))


def is_clear(part, stands, tool, one, other):
    """Whether the tool can stand at all places of the straight way, told by numbers.

    Where no number is whole in between, nothing changes.
    """
    return all(stands_at(part, stands, tool, at_moment(one, other, moment)) for moment in bounds_crossed(one, other))
