"""The tests' own machine: it does PATHS moment by moment, on a grid of halves.

A cell of halves is told by one of its spots, whose numbers are quarters: all is told eight times as large, so that
a place goes on by one from each moment at which something can happen to the moment between this one and the next.
"""

import itertools
from fractions import Fraction

from tests import own


def quarters_of(cell):
    """The spots with quarters in a CELL, eight times as far: one for each cell of halves."""
    rows = [[8 * low] if low == high else [8 * low + by for by in (2, 4, 6)] for low, high in map(own.ends, cell)]
    return itertools.product(*rows)


def spots_of(cells):
    return {spot for cell in cells for spot in quarters_of(cell)}


def within(box, place):
    """The spots with quarters within the BOX at a place, all eight times as far."""
    rows = []
    for (low, high), by in zip(own.axes(box), place):
        rows.append([number for number in range(8 * low + by + 1, 8 * high + by) if number % 2 == 0])
    return itertools.product(*rows)


class OwnMachine:
    def __init__(self, part, stands, tool):
        self.part, self.tool = part, tool
        self.left = spots_of(stands)
        self.many = 0

    def at_moment(self, place):
        """Whether it can stand at this moment, what lies within the cutter having been taken."""
        row = [Fraction(number, 8) for number in place]
        if any(own.with_box(box, row, kept) for boxes in self.tool for box in boxes for kept in self.part):
            return False
        for box in self.tool[0]:
            for spot in within(box, place):
                if spot in self.left:
                    self.left.discard(spot)
                    self.many += all(number % 4 == 2 for number in spot)
        return not any(spot in self.left for box in self.tool[1] for spot in within(box, place))

    def walk(self, path):
        """None if it does the PATH, otherwise the number of the first POINT that it doesn't come to."""
        places = [tuple(8 * top // bottom for top, bottom in point) for point in path]
        if not self.at_moment(places[0]):
            return 0
        for number, (start, end) in enumerate(zip(places, places[1:]), 1):
            length = sum(abs(a - b) for a, b in zip(start, end))
            for moment in range(length + 1):
                place = tuple(a + (moment if b > a else -moment if b < a else 0) for a, b in zip(start, end))
                if not self.at_moment(place):
                    return number
        return None

    def told(self, path):
        """What walked tells of the PATH."""
        number = self.walk(path)
        return ("done", Fraction(self.many, 8).as_integer_ratio()) if number is None else ("stops", number)


def is_outside(part, stock, tool, point):
    return Fraction(*point[2]) >= own.lowest_outside(part, stock, tool)


def is_path_for(part, stock, stands, tool, path, left):
    """Whether the PATH goes from outside to outside, can be done, and leaves just these CELLS."""
    if not is_outside(part, stock, tool, path[0]) or not is_outside(part, stock, tool, path[-1]):
        return False
    machine = OwnMachine(part, stands, tool)
    return machine.walk(path) is None and machine.left == spots_of(left)
