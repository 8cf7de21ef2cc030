"""How a TOOL goes over its reach on a grid of halves, so that it takes all that it can.

A place of halves is told by its CELL, or the CELL's bit; its indices are the numbers of the place, twice as far.
"""

from allitreaches.cells import sample
from allitreaches.grids import first_of, last_of, many_of
from allitreaches.halves import Milling


def _cover(setup, reach, wanted):
    """Places of halves in the reach, at which, taken together, all that is wanted is taken.

    What is taken at the places of a gap is taken at its middle and its ends.
    """
    chosen = 0
    while wanted:
        place = last_of(reach & setup.taking(first_of(wanted)))
        chosen = chosen | place
        wanted = wanted & ~setup.taken(place)
    return setup.grid.closure(chosen)


class Tour:
    """A TOOL that goes from place to place; wanted are the cells of halves, as bits, that it has to take yet."""

    def __init__(self, scene, setup):
        self.grid = setup.grid
        self.milling = Milling(scene.part, scene.stock, setup.tool)
        self.wanted = 0
        self.steps = [first_of(setup.outside)]

    def _takes(self, first, last):
        """What it takes from the one place straight on to the other, of all that is wanted."""
        return self.wanted & self.milling.cut(self.grid.cell_of_bit(first), self.grid.cell_of_bit(last))

    def _go(self, step):
        self.steps.append(step)
        self.wanted = self.wanted & ~self._takes(step, step)

    def _ahead(self, reach, axis, ahead):
        """The places straight on, one behind the other, as far as the reach goes."""
        row = []
        step = self.grid.shifted(self.steps[-1], axis, ahead) & reach
        while step:
            row.append(step)
            step = self.grid.shifted(step, axis, ahead) & reach
        return row

    def _run(self, reach, axis, ahead):
        """How much a move straight on takes, and the places up to the last one that takes some of it."""
        row = self._ahead(reach, axis, ahead)
        took = self._takes(row[0], row[-1]) if row else 0
        if not took:
            return (0, [])
        low, high = 0, len(row) - 1
        while low < high:
            middle = (low + high) // 2
            if self._takes(row[0], row[middle]) == took:
                high = middle
            else:
                low = middle + 1
        return (many_of(took), row[:low + 1])

    def _longest_run(self, reach):
        """The places of the straight move that takes most; none if none takes anything."""
        best, best_row = 0, []
        for axis in (2, 0, 1):
            for ahead in (-1, 1):
                many, row = self._run(reach, axis, ahead)
                if many > best:
                    best, best_row = many, row
        return best_row

    def go_over(self, reach, cover):
        """Goes on in the reach until all that is wanted is taken; at the places of the cover all of it is."""
        while self.wanted:
            row = self._longest_run(reach)
            if not row:
                way_on = self.grid.route(reach, self.steps[-1], cover)
                cover = cover & ~way_on[-1]
                row = way_on[1:] if self._takes(way_on[-1], way_on[-1]) else []
            for step in row:
                self._go(step)

    def go_out(self, reach, outside):
        """Goes on to the next place that is outside."""
        self.steps.extend(self.grid.route(reach, self.steps[-1], outside)[1:])

    def points(self):
        """The POINTS of all places, in sequence."""
        return [sample(self.grid.cell_of_bit(step)) for step in self.steps]


def tour(scene, setup, stands):
    """The POINTS of a way from outside to outside, on which the TOOL takes all that it can."""
    going = Tour(scene, setup)
    reach = setup.reach(stands)
    took = stands & setup.taken(reach)
    while took:
        going.wanted = going.milling.bits_of(setup.lot_of(took))
        going.go_over(reach, _cover(setup, reach, took))
        stands = stands & ~took
        reach = setup.reach(stands)
        took = stands & setup.taken(reach)
    going.go_out(reach, setup.outside)
    return going.points()
