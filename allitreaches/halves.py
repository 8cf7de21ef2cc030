"""Moves at halves: all is told twice as large, so that it is told by integers."""

from allitreaches.boxes import axes, clash, hull, moved
from allitreaches.errors import Cuts, Meets
from allitreaches.grids import Grid, many_of
from allitreaches.heights import lowest_outside
from allitreaches.ratios import is_less


def doubled(point):
    """A place of halves, twice as far."""
    return tuple([2 * top // bottom for top, bottom in point])


def _doubled_box(box):
    return tuple([2 * number for number in box])


def _halved_index(index):
    """The indices at halves of what has this index at whole numbers."""
    return [2 * index - 1, 2 * index, 2 * index + 1] if index % 2 == 1 else [2 * index]


def halved_cells(cell):
    """The cells of halves in which the spots of the CELL lie."""
    xs, ys, zs = [_halved_index(index) for index in cell]
    return [(x, y, z) for x in xs for y in ys for z in zs]


def _front(box, start, end):
    """How far ahead the BOX reaches on the way from start to end, along one axis."""
    for (low, high), near, far in zip(axes(box), start, end):
        if near != far:
            return high if near < far else -low
    return 0


def _gone_over(boxes, start, end):
    """The BOXES that hold within them all that lies within these ones on the way from start to end."""
    return [hull((moved(box, start), moved(box, end))) for box in boxes]


class Milling:
    """A TOOL over a PART in a STOCK at halves. Spots are bits of a Grid, places are twice as far."""

    def __init__(self, part, stock, tool):
        cutter, holder = tool
        self.lowest = lowest_outside(part, stock, tool)
        self.part = [_doubled_box(box) for box in part]
        self.stock = [_doubled_box(box) for box in stock]
        self.cutter = [_doubled_box(box) for box in cutter]
        self.holder = [_doubled_box(box) for box in holder]
        whole = axes(hull(tuple(self.stock)))
        self.grid = Grid([2 * low for low, _ in whole], [2 * high for _, high in whole])

    def beginning(self):
        """The POINT at which the TOOL is when it comes into the machine."""
        return ((0, 1), (0, 1), (self.lowest, 1))

    def is_outside(self, point):
        """Whether the TOOL is outside at this POINT."""
        return not is_less(point[2], (self.lowest, 1))

    def first(self):
        """All that stands at first."""
        found = 0
        for box in self.stock:
            found = found | self.grid.lying_in(box)
        return found

    def bits_of(self, lot):
        """The bits of the cells of halves of a Lot."""
        return self.grid.bits_of(sorted([half for cell in lot.cells for half in halved_cells(cell)]))

    def eighths_of(self, bits):
        """How many eighths of a cube these spots fill."""
        return many_of(bits & self.grid.all_cubes())

    def cut(self, start, end):
        """What lies within the cutter on the way from start to end, along one axis."""
        found = 0
        for box in _gone_over(self.cutter, start, end):
            found = found | self.grid.within(box)
        return found

    def _part_met(self, boxes):
        """The number of the first BOX of the PART that has spots within one of these; None if none has."""
        for number, kept in enumerate(self.part):
            if any([clash(box, kept) for box in boxes]):
                return number
        return None

    def left(self, stands, start, end):
        """What stands behind a move along one axis, or of no length."""
        cut = _gone_over(self.cutter, start, end)
        held = _gone_over(self.holder, start, end)
        number = self._part_met(cut)
        if number is not None:
            raise Cuts(number)
        number = self._part_met(held)
        if number is not None:
            raise Meets(number)
        rows = [(_front(box, start, end), self.grid.within(whole)) for box, whole in zip(self.cutter, cut)]
        for box, whole in zip(self.holder, held):
            met = stands & self.grid.within(whole)
            for front, gone in rows:
                # A cutter's BOX that is not as far ahead comes too late to spots that the holder's comes upon.
                if front >= _front(box, start, end):
                    met = met & ~gone
            if met:
                raise Meets(None)
        for _, gone in rows:
            stands = stands & ~gone
        return stands
