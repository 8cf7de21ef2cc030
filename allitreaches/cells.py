"""CELLS: what whole numbers cut space into."""

from allitreaches.errors import BadCell
from allitreaches.integers import is_integer
from allitreaches.points import check_point


def is_cell(value):
    """Whether any value is a CELL."""
    if not isinstance(value, tuple) or len(value) != 3:
        return False
    return all([is_integer(index) for index in value])


def check_cell(value):
    """Refuses what is no CELL."""
    if not is_cell(value):
        raise BadCell(value)


def is_cube(cell):
    """Whether the CELL is a gap on each axis."""
    return all([index % 2 == 1 for index in cell])


def _index_of(fraction):
    """The index of the number, or of the gap in which it lies."""
    top, bottom = fraction
    return 2 * top if bottom == 1 else 2 * (top // bottom) + 1


def cell_of(point):
    """The CELL in which the POINT lies."""
    check_point(point)
    return tuple([_index_of(fraction) for fraction in point])


def _sample_on_axis(index):
    # Half of an odd index is the middle of its gap.
    return (index, 2) if index % 2 == 1 else (index // 2, 1)


def sample(cell):
    """The POINT of the CELL's numbers, and of the middles of its gaps."""
    check_cell(cell)
    return tuple([_sample_on_axis(index) for index in cell])


def _beside(cell, parity):
    """All other CELLS that differ by one, or not, where the index has this parity."""
    rows = [[index - 1, index, index + 1] if index % 2 == parity else [index] for index in cell]
    xs, ys, zs = rows
    return [(x, y, z) for x in xs for y in ys for z in zs if (x, y, z) != cell]


def rim_of(cell):
    """The CELLS that lie at the rim of this one."""
    return _beside(cell, 1)


def around_of(cell):
    """The CELLS at whose rim this one lies."""
    return _beside(cell, 0)


def touching(cell):
    """The CELLS that touch this one."""
    return rim_of(cell) + around_of(cell)


def touches(one, other):
    """Whether one of both CELLS lies at the rim of the other."""
    check_cell(one)
    check_cell(other)
    return other in touching(one)


def swept_span(index, near, far):
    """The least and the greatest index between near and far, when moved by a number or along a gap."""
    if index % 2 == 1:
        return (index + 2 * near, index + 2 * far)
    return (index + 2 * near + 1, index + 2 * far - 1)
