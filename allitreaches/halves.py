"""Moves at halves: all is told twice as large, so that it is told by integers."""

from allitreaches.boxes import axes, clash, hull, moved
from allitreaches.grids import Grid, many_of


def doubled(point):
    """A place of halves, twice as far."""
    return tuple([2 * top // bottom for top, bottom in point])


def _doubled_box(box):
    return tuple([2 * number for number in box])


def _halved_index(index):
    """The indices at halves of what has this index at whole numbers."""
    return [2 * index - 1, 2 * index, 2 * index + 1] if index % 2 == 1 else [2 * index]


def halved_cells(cell):
    """The cells of halves in which the spots of the CELL lie."""
    xs, ys, zs = [_halved_index(index) for index in cell]
    return [(x, y, z) for x in xs for y in ys for z in zs]


def _front(box, start, end):
    """How far ahead the BOX reaches on the way from start to end, along one axis."""
    for (low, high), near, far in zip(axes(box), start, end):
        if near != far:
            return high if near < far else -low
    return 0


class Milling:
    """A TOOL over a Scene at halves. Spots are bits of a Grid, places are twice as far."""

    def __init__(self, scene, tool):
        cutter, holder = tool
        self.part = [_doubled_box(box) for box in scene.part]
        self.cutter = [_doubled_box(box) for box in cutter]
        self.holder = [_doubled_box(box) for box in holder]
        stock = axes(_doubled_box(hull(scene.stock)))
        self.grid = Grid([2 * low for low, _ in stock], [2 * high for _, high in stock])

    def bits_of(self, lot):
        """The bits of the cells of halves of a Lot."""
        return self.grid.bits_of(sorted([half for cell in lot.cells for half in halved_cells(cell)]))

    def eighths_of(self, bits):
        """How many eighths of a cube these spots fill."""
        return many_of(bits & self.grid.all_cubes())

    def cut_at(self, place):
        """What lies within the cutter at a place."""
        found = 0
        for box in self.cutter:
            found = found | self.grid.within(moved(box, place))
        return found

    def _gone_over(self, box, start, end):
        """The BOX that holds within it all that lies within this one on the way; None if the PART is met."""
        whole = hull((moved(box, start), moved(box, end)))
        return None if any([clash(whole, kept) for kept in self.part]) else whole

    def left(self, stands, start, end):
        """What stands behind a move along one axis, or of no length; None if it is not let."""
        cut = [self._gone_over(box, start, end) for box in self.cutter]
        held = [self._gone_over(box, start, end) for box in self.holder]
        if None in cut + held:
            return None
        rows = [(_front(box, start, end), self.grid.within(whole)) for box, whole in zip(self.cutter, cut)]
        for box, whole in zip(self.holder, held):
            met = stands & self.grid.within(whole)
            for front, gone in rows:
                # A cutter's BOX that is not as far ahead comes too late to spots that the holder's comes upon.
                if front >= _front(box, start, end):
                    met = met & ~gone
            if met:
                return None
        for _, gone in rows:
            stands = stands & ~gone
        return stands
