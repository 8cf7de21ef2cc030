"""Places: where a TOOL can stand, while something stands."""

from allitreaches.cells import cell_of
from allitreaches.errors import NoScene
from allitreaches.heights import top_of
from allitreaches.kinds import check_part, check_stock, check_tool
from allitreaches.lots import check_lot, lot_of_boxes
from allitreaches.reasons import reasons_at
from allitreaches.setups import room_of, setup_of


class Scene:
    """A PART in a STOCK."""

    def __init__(self, part, stock):
        check_part(part)
        check_stock(stock)
        self.part = part
        self.stock = stock
        self.stands = lot_of_boxes(stock)
        self.top = top_of(part, stock)

    def __eq__(self, other):
        return isinstance(other, Scene) and self.part == other.part and self.stock == other.stock


def check_scene(value):
    """Refuses what is no Scene."""
    if not isinstance(value, Scene):
        raise NoScene(value)


def check_setting(scene, stands, tool):
    """Refuses what is no Scene, no Lot, no TOOL."""
    check_scene(scene)
    check_lot(stands)
    check_tool(tool)


def can_stand(scene, stands, tool, point):
    """Whether the TOOL can stand at this place."""
    return not meets(scene, stands, tool, point)


def meets(scene, stands, tool, point):
    """What bars this place, ascending."""
    check_setting(scene, stands, tool)
    return tuple(reasons_at(scene, stands, tool, cell_of(point)))


def room(scene, tool):
    """The ROOM: a BOX of places, beyond which, and on its sides, the TOOL meets nothing."""
    check_scene(scene)
    check_tool(tool)
    return room_of(scene, tool)


def free(scene, stands, tool):
    """All CELLS in the ROOM on which the TOOL can stand."""
    check_setting(scene, stands, tool)
    setup = setup_of(scene, tool)
    return setup.lot_of(setup.free(setup.bits_of(stands)))


def outside(scene, tool):
    """All CELLS of the ROOM that are outside."""
    check_scene(scene)
    check_tool(tool)
    setup = setup_of(scene, tool)
    return setup.lot_of(setup.outside)


def reach(scene, stands, tool):
    """The piece of the free CELLS in which outside is."""
    check_setting(scene, stands, tool)
    setup = setup_of(scene, tool)
    return setup.lot_of(setup.reach(setup.bits_of(stands)))
