"""Many CELLS at once, as the bits of one integer."""

from allitreaches.boxes import axes
from allitreaches.cells import swept_span


def first_of(bits):
    """The bit of the least of these CELLS."""
    return bits & -bits


def last_of(bits):
    """The bit of the greatest of these CELLS."""
    return 1 << bits.bit_length() - 1


def many_of(bits):
    """How many CELLS these are."""
    figures = f"{bits:b}"
    return figures.count("1")


def _repeated(pattern, width, whole):
    """The pattern, so many bits wide, over and over, up to so many bits on the whole."""
    while width < whole:
        pattern = pattern | pattern << width
        width = 2 * width
    return pattern & (1 << whole) - 1


class Grid:
    """All CELLS from lows to highs, each with a bit of its own.

    Some of them are told by one integer: what is done to all of these at once
    takes a few sums with it, where a loop over them would take far longer.
    """

    def __init__(self, lows, highs):
        self.lows = lows
        self.sizes = [high - low + 1 for low, high in zip(lows, highs)]
        many_x, many_y, many_z = self.sizes
        self.steps = [many_y * many_z, many_z, 1]
        self.whole = many_x * many_y * many_z
        self._below = {}
        self._gaps = {}

    def bits_of(self, cells):
        """The bits of these ascending CELLS."""
        low_x, low_y, low_z = self.lows
        step_x, step_y, _ = self.steps
        pieces = []
        behind = 0
        for x, y, z in cells:
            at = (x - low_x) * step_x + (y - low_y) * step_y + z - low_z
            pieces.append("0" * (at - behind) + "1")
            behind = at + 1
        figures = "".join(pieces)
        return int(figures[::-1], 2) if figures else 0

    def _cell_at(self, number):
        """The CELL whose bit has this number."""
        low_x, low_y, low_z = self.lows
        step_x, step_y, _ = self.steps
        x, rest = divmod(number, step_x)
        y, z = divmod(rest, step_y)
        return (x + low_x, y + low_y, z + low_z)

    def cell_of_bit(self, bit):
        """The CELL with this bit."""
        return self._cell_at(bit.bit_length() - 1)

    def cells_of(self, bits):
        """The ascending list of the CELLS with these bits."""
        figures = f"{bits:b}"
        figures = figures[::-1]
        cells = []
        at = figures.find("1")
        while at >= 0:
            cells.append(self._cell_at(at))
            at = figures.find("1", at + 1)
        return cells

    def below(self, axis, index):
        """All CELLS whose index on this axis is less."""
        many = min(max(index - self.lows[axis], 0), self.sizes[axis])
        if (axis, many) not in self._below:
            step = self.steps[axis]
            self._below[axis, many] = _repeated((1 << many * step) - 1, step * self.sizes[axis], self.whole)
        return self._below[axis, many]

    def gaps(self, axis):
        """All CELLS that are a gap on this axis."""
        if axis not in self._gaps:
            step, size = self.steps[axis], self.sizes[axis]
            first = (self.lows[axis] + 1) % 2
            plane = (1 << step) - 1 << first * step
            row = _repeated(plane, 2 * step, step * size)
            self._gaps[axis] = _repeated(row, step * size, self.whole)
        return self._gaps[axis]

    def all_cubes(self):
        """All CELLS that are cubes."""
        return self.gaps(0) & self.gaps(1) & self.gaps(2)

    def between(self, spans):
        """All CELLS with indices from the one to the other number, on each axis."""
        bits = (1 << self.whole) - 1
        for axis, (first, last) in enumerate(spans):
            bits = bits & self.below(axis, last + 1) & ~self.below(axis, first)
        return bits

    def lying_in(self, box):
        """All CELLS that lie in the BOX."""
        return self.between([(2 * low, 2 * high) for low, high in axes(box)])

    def within(self, box):
        """All CELLS that lie within the BOX."""
        return self.between([(2 * low + 1, 2 * high - 1) for low, high in axes(box)])

    def shifted(self, bits, axis, by):
        """These CELLS, so much further on the axis, as far as they are of the grid then."""
        low, size, step = self.lows[axis], self.sizes[axis], self.steps[axis]
        if by < 0:
            return (bits & ~self.below(axis, low - by)) >> -by * step
        return (bits & self.below(axis, low + size - by)) << by * step

    def _smeared(self, bits, axis, far):
        """These CELLS, and all as far as that behind or ahead of them on the axis."""
        ahead = 1 if far > 0 else -1
        done = 0
        while done < abs(far):
            step = min(done + 1, abs(far) - done)
            bits = bits | self.shifted(bits, axis, ahead * step)
            done += step
        return bits

    def _spread(self, bits, axis, first, last):
        """These CELLS, further on the axis by all from first to last."""
        # From 0 outward, as what once leaves the grid is lost.
        if first > 0:
            return self._smeared(self.shifted(bits, axis, first), axis, last - first)
        if last < 0:
            return self._smeared(self.shifted(bits, axis, last), axis, first - last)
        return self._smeared(bits, axis, first) | self._smeared(bits, axis, last)

    def swept(self, bits, box):
        """All CELLS within the BOX when it is moved by places in these CELLS."""
        for axis, (near, far) in enumerate(axes(box)):
            gaps = bits & self.gaps(axis)
            on_gap, on_number = swept_span(1, near, far), swept_span(0, near, far)
            of_gaps = self._spread(gaps, axis, on_gap[0] - 1, on_gap[1] - 1)
            bits = of_gaps | self._spread(bits & ~gaps, axis, on_number[0], on_number[1])
        return bits

    def beside(self, bits):
        """All CELLS one step from these along an axis."""
        found = 0
        for axis in range(3):
            found = found | self.shifted(bits, axis, 1) | self.shifted(bits, axis, -1)
        return found

    def closure(self, bits):
        """These CELLS, and all that lie at the rim of one of them."""
        for axis in range(3):
            gaps = bits & self.gaps(axis)
            bits = bits | self.shifted(gaps, axis, 1) | self.shifted(gaps, axis, -1)
        return bits

    def flooded(self, bits, free):
        """All CELLS of free to which steps along the axes lead from these, by such of free.

        In a closed lot these are whole pieces: who comes from a CELL to one at
        its rim comes to it by one axis at a time, and stays in the closure.
        """
        found = bits & free
        wider = (found | self.beside(found)) & free
        while wider != found:
            found = wider
            wider = (found | self.beside(found)) & free
        return found

    def route(self, free, start, goals):
        """The bits of CELLS of free that lead, step by step, from start to the next of goals; None if none do."""
        rows = [start]
        found = start
        while not rows[-1] & goals:
            row = self.beside(rows[-1]) & free & ~found
            if not row:
                return None
            rows.append(row)
            found = found | row
        steps = [first_of(rows[-1] & goals)]
        for row in rows[-2::-1]:
            steps.append(first_of(self.beside(steps[-1]) & row))
        return steps[::-1]
