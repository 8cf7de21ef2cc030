"""Ways from one place to another, and fences that part them."""

from allitreaches.boxes import axes
from allitreaches.cells import cell_of, is_cell, sample, touching
from allitreaches.errors import NoFence
from allitreaches.lines import differ_on_one_axis, steps_to, straightened
from allitreaches.lots import Lot
from allitreaches.places import check_setting
from allitreaches.points import check_point, is_point
from allitreaches.ratios import greater, lesser
from allitreaches.reasons import entries, is_reason, reasons_at, refuse_barred
from allitreaches.setups import room_of, setup_of


def _check(scene, stands, tool, one, other):
    check_setting(scene, stands, tool)
    check_point(one)
    check_point(other)
    refuse_barred(scene, stands, tool, one)
    refuse_barred(scene, stands, tool, other)


def _within_room(spans, point):
    """The place of the ROOM next to this one."""
    return tuple([lesser(greater(number, (low, 1)), (high, 1)) for number, (low, high) in zip(point, spans)])


def _way_in(spans, point):
    """The POINTS from a place, which the TOOL can stand at, to the next one of the ROOM.

    Up to the last of them it is beyond the ROOM on some axis, or on a side of it: nothing is met there.
    """
    return [point] + steps_to(point, _within_room(spans, point))


def _route(scene, stands, tool, one, other):
    """The CELLS of places that lead from one to other, both in the ROOM; None if none do."""
    setup = setup_of(scene, tool)
    grid = setup.grid
    ends = [grid.bits_of((cell_of(point),)) for point in (one, other)]
    steps = grid.route(setup.free(setup.bits_of(stands)), ends[0], ends[1])
    if steps is None:
        return None
    return [grid.cell_of_bit(step) for step in steps]


def _way(scene, stands, tool, one, other):
    if one == other:
        return (one,)
    spans = axes(room_of(scene, tool))
    way_in, way_out = _way_in(spans, one), _way_in(spans, other)[::-1]
    cells = _route(scene, stands, tool, way_in[-1], way_out[0])
    if cells is None:
        return None
    samples = [sample(cell) for cell in cells]
    points = way_in + steps_to(way_in[-1], samples[0]) + samples
    points = points + steps_to(samples[-1], way_out[0]) + way_out
    return tuple(straightened(points))


def way(scene, stands, tool, one, other):
    """POINTS that lead the TOOL from one to other along the axes; None if no moves do."""
    _check(scene, stands, tool, one, other)
    return _way(scene, stands, tool, one, other)


def _is_way(scene, stands, tool, one, other, value):
    """Whether any value is a tuple of POINTS that leads from one to other."""
    if not isinstance(value, tuple) or not value or not all([is_point(point) for point in value]):
        return False
    if value[0] != one or value[-1] != other:
        return False
    stretches = list(zip(value, value[1:]))
    if not all([differ_on_one_axis(start, end) for start, end in stretches]):
        return False
    return not any([entries(scene, stands, tool, start, end) for start, end in stretches])


def shows_way(scene, stands, tool, one, other, value):
    """Whether way may tell this value."""
    _check(scene, stands, tool, one, other)
    if value is None:
        return _way(scene, stands, tool, one, other) is None
    return _is_way(scene, stands, tool, one, other, value)


def _hollow(scene, stands, tool, one, other):
    """The piece, not that of outside, of one or of other, which no way joins."""
    setup = setup_of(scene, tool)
    grid = setup.grid
    spans = axes(room_of(scene, tool))
    free = setup.free(setup.bits_of(stands))
    ends = [grid.bits_of((cell_of(_within_room(spans, point)),)) for point in (one, other)]
    pieces = [grid.flooded(end, free) for end in ends]
    return setup.lot_of(pieces[1] if pieces[0] & setup.outside else pieces[0])


def _at_the_rim(lot):
    """The ascending list of the CELLS that touch one of the Lot's, and are none of them."""
    own = {cell: True for cell in lot.cells}
    return sorted({beside for cell in lot.cells for beside in touching(cell) if beside not in own})


def fence(scene, stands, tool, one, other):
    """A Lot with just one of both places, and why the TOOL can stand nowhere around it."""
    _check(scene, stands, tool, one, other)
    told = _way(scene, stands, tool, one, other)
    if told is not None:
        raise NoFence(told)
    lot = _hollow(scene, stands, tool, one, other)
    return (lot, tuple([(cell, reasons_at(scene, stands, tool, cell)[0]) for cell in _at_the_rim(lot)]))


def _is_told_reason(value):
    """Whether any value is a CELL and something that has the form of a reason."""
    return isinstance(value, tuple) and len(value) == 2 and is_cell(value[0]) and is_reason(value[1])


def shows_fence(scene, stands, tool, one, other, value):
    """Whether any value parts both places as a fence does."""
    _check(scene, stands, tool, one, other)
    if not isinstance(value, tuple) or len(value) != 2:
        return False
    lot, reasons = value
    if not isinstance(lot, Lot) or lot.has(one) == lot.has(other):
        return False
    if not isinstance(reasons, tuple) or not all([_is_told_reason(row) for row in reasons]):
        return False
    if [cell for cell, _ in reasons] != _at_the_rim(lot):
        return False
    return all([reason in reasons_at(scene, stands, tool, cell) for cell, reason in reasons])
