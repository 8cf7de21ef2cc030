"""LOTS: sets of CELLS, and what BOXES make of them."""

from allitreaches.boxes import axes, box_of
from allitreaches.cells import cell_of, is_cell, is_cube, rim_of, around_of, swept_span, touching
from allitreaches.errors import BadBoxes, BadCells, NoLot, TooFar
from allitreaches.grids import Grid
from allitreaches.kinds import are_boxes


def _in_bounds(index):
    return -200 <= index <= 200


def _are_cells(value):
    """Whether any value is a tuple of CELLS that a Lot can have."""
    if not isinstance(value, tuple) or not all([is_cell(cell) for cell in value]):
        return False
    return all([_in_bounds(index) for cell in value for index in cell])


class Lot:
    """All spots of some CELLS."""

    def __init__(self, cells):
        if not _are_cells(cells):
            raise BadCells(cells)
        self._own = {cell: True for cell in cells}
        self.cells = tuple(sorted(self._own))
        self.cubes = len([cell for cell in self.cells if is_cube(cell)])

    def __eq__(self, other):
        return isinstance(other, Lot) and self.cells == other.cells

    def __len__(self):
        return len(self.cells)

    @property
    def is_closed(self):
        """Whether it has all CELLS at the rims of its own."""
        return all([beside in self._own for cell in self.cells for beside in rim_of(cell)])

    @property
    def is_open(self):
        """Whether it has all CELLS at whose rims its own lie."""
        return all([beside in self._own for cell in self.cells for beside in around_of(cell)])

    def has(self, point):
        """Whether this spot is in it."""
        return cell_of(point) in self._own

    def is_in(self, other):
        """Whether all its spots are in the other Lot."""
        check_lot(other)
        return all([cell in other._own for cell in self.cells])

    def joined(self, other):
        """The spots that are in one of both at least."""
        check_lot(other)
        return Lot(self.cells + other.cells)

    def both(self, other):
        """The spots that are in both."""
        check_lot(other)
        return Lot(tuple([cell for cell in self.cells if cell in other._own]))

    def less(self, other):
        """The spots that are not in the other Lot."""
        check_lot(other)
        return Lot(tuple([cell for cell in self.cells if cell not in other._own]))

    def _piece(self, first):
        """The list of its CELLS to which CELLS that touch lead from this one."""
        found = {first: True}
        waiting = [first]
        while waiting:
            here = waiting.pop()
            for cell in touching(here):
                if cell in self._own and cell not in found:
                    found[cell] = True
                    waiting.append(cell)
        return list(found)

    def pieces(self):
        """The Lots into which it comes apart, by their least CELLS."""
        seen = {}
        pieces = []
        for cell in self.cells:
            if cell not in seen:
                piece = self._piece(cell)
                for other in piece:
                    seen[other] = True
                pieces.append(Lot(tuple(piece)))
        return tuple(pieces)

    def closure(self):
        """Its spots, and all CELLS at the rims of its own."""
        return Lot(self.cells + tuple([beside for cell in self.cells for beside in rim_of(cell)]))


def check_lot(value):
    """Refuses what is no Lot."""
    if not isinstance(value, Lot):
        raise NoLot(value)


def check_boxes(value):
    """Refuses what is no tuple of BOXES that lots are made of."""
    if not are_boxes(value, 0, 40, -90, 90):
        raise BadBoxes(value)


def _cells_of_box(box, inset):
    xs, ys, zs = [list(range(2 * low + inset, 2 * high + 1 - inset)) for low, high in axes(box)]
    return [(x, y, z) for x in xs for y in ys for z in zs]


def lot_of_boxes(boxes):
    """All spots that lie in one of these BOXES."""
    check_boxes(boxes)
    return Lot(tuple([cell for box in boxes for cell in _cells_of_box(box, 0)]))


def within_boxes(boxes):
    """All spots that lie within one of these BOXES by itself."""
    check_boxes(boxes)
    return Lot(tuple([cell for box in boxes for cell in _cells_of_box(box, 1)]))


def _outermost(lot, boxes, axis):
    """The least and the greatest index of what the BOXES sweep on this axis."""
    spans = [swept_span(index, near, far)
             for index in sorted({cell[axis] for cell in lot.cells})
             for near, far in [axes(box)[axis] for box in boxes]]
    return (min([first for first, _ in spans]), max([last for _, last in spans]))


def _swept(lot, boxes):
    """All spots within one of the BOXES at some place in the lot."""
    if not lot.cells or not boxes:
        return Lot(())
    ends = [_outermost(lot, boxes, axis) for axis in range(3)]
    if not all([_in_bounds(index) for span in ends for index in span]):
        raise TooFar(None)
    lows = [min(low, min([cell[axis] for cell in lot.cells])) for axis, (low, _) in enumerate(ends)]
    highs = [max(high, max([cell[axis] for cell in lot.cells])) for axis, (_, high) in enumerate(ends)]
    grid = Grid(lows, highs)
    bits = grid.bits_of(lot.cells)
    found = 0
    for box in boxes:
        found = found | grid.swept(bits, box)
    return Lot(tuple(grid.cells_of(found)))


def swept(lot, boxes):
    """All spots that lie within one of the BOXES, moved by any place in the lot."""
    check_lot(lot)
    check_boxes(boxes)
    return _swept(lot, boxes)


def opposite(box):
    """The BOX at the other side of the origin."""
    return box_of([(-high, -low) for low, high in axes(box)])


def meeting(lot, boxes):
    """All places at which one of the BOXES has a spot of the lot within it."""
    check_lot(lot)
    check_boxes(boxes)
    return _swept(lot, tuple([opposite(box) for box in boxes]))
