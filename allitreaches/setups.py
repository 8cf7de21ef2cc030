"""A TOOL over a Scene: its places, and the spots, as the bits of a Grid."""

from allitreaches.boxes import axes, box_of, grown, hull
from allitreaches.grids import Grid
from allitreaches.heights import lowest_outside
from allitreaches.lots import Lot, opposite


def room_of(scene, tool):
    """The ROOM: beyond it, and on its sides, the TOOL meets nothing."""
    cutter, holder = tool
    met = grown(hull(scene.part + scene.stock), hull(cutter + holder))
    return box_of([(low - 1, high + 1) for low, high in axes(met)])


def grid_of(scene, tools):
    """A Grid of all spots that matter, and all places in the ROOMS of these TOOLS."""
    rooms = [room_of(scene, tool) for tool in tools]
    whole = axes(hull(scene.part + scene.stock + tuple(rooms)))
    return Grid([2 * low for low, _ in whole], [2 * high for _, high in whole])


class Setup:
    """A TOOL over a Scene. Spots and places, told and asked for, are bits of the Grid."""

    def __init__(self, grid, scene, tool):
        self.grid = grid
        self.tool = tool
        self.cutter, self.holder = tool
        self.room = grid.lying_in(room_of(scene, tool))
        self.outside = self.room & ~grid.below(2, 2 * lowest_outside(scene.part, scene.stock, tool))
        part = 0
        for box in scene.part:
            part = part | grid.lying_in(box)
        self.past_part = self.room & ~self._met(part, self.cutter + self.holder)

    def _met(self, spots, boxes):
        """The places at which one of the BOXES has one of the spots within it."""
        found = 0
        for box in boxes:
            found = found | self.grid.swept(spots, opposite(box))
        return found

    def taking(self, spots):
        """The places at which the cutter takes one of the spots."""
        return self._met(spots, self.cutter)

    def free(self, stands):
        """The places in the ROOM at which the TOOL can stand."""
        return self.past_part & ~self._met(stands, self.holder)

    def reach(self, stands):
        """The places in the ROOM to which it comes from outside."""
        return self.grid.flooded(self.outside, self.free(stands))

    def taken(self, places):
        """The spots that the cutter takes at these places."""
        found = 0
        for box in self.cutter:
            found = found | self.grid.swept(places, box)
        return found

    def taken_from(self, stands):
        """The spots of what stands that the cutter takes at the places of its reach."""
        return stands & self.taken(self.reach(stands))

    def stages(self, stands):
        """What stands, and what is left of it each time when the reach is gone over once more."""
        rows = [stands]
        took = self.taken_from(stands)
        while took:
            rows.append(rows[-1] & ~took)
            took = self.taken_from(rows[-1])
        return rows

    def behind(self, stands):
        """What stands behind a whole TURN."""
        return self.stages(stands)[-1]

    def bits_of(self, lot):
        """The bits of a Lot."""
        return self.grid.bits_of(lot.cells)

    def lot_of(self, bits):
        """The Lot of these bits."""
        return Lot(tuple(self.grid.cells_of(bits)))


def setup_of(scene, tool):
    """The Setup of one TOOL, with a Grid of its own."""
    return Setup(grid_of(scene, (tool,)), scene, tool)
