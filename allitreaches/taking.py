"""What a TOOL takes, at places and in whole turns."""

from allitreaches.boxes import axes, where
from allitreaches.cells import cell_of, swept_span
from allitreaches.kinds import check_tool
from allitreaches.lots import swept
from allitreaches.places import check_setting
from allitreaches.points import check_point, is_point
from allitreaches.ratios import difference, greater, lesser, middle
from allitreaches.setups import setup_of


def taken(tool, lot):
    """All CELLS of which some spot lies within the cutter at some place in the lot."""
    check_tool(tool)
    return swept(lot, tool[0])


def _place_on_axis(index, number, near, far):
    """A number of this index that lies between number - far and number - near."""
    if index % 2 == 0:
        return (index // 2, 1)
    low = greater((index // 2, 1), difference(number, (far, 1)))
    high = lesser((index // 2 + 1, 1), difference(number, (near, 1)))
    return middle(low, high)


def _place_for(grid, places, box, point):
    """A place of these at which the POINT lies within the BOX; None if there is none."""
    # The spot lies in the BOX moved by c just if c lies in the opposite one, moved by the spot.
    spans = [swept_span(index, -far, -near) for index, (near, far) in zip(cell_of(point), axes(box))]
    cells = grid.cells_of(places & grid.between(spans))
    if not cells:
        return None
    return tuple([_place_on_axis(index, number, near, far)
                  for index, number, (near, far) in zip(cells[0], point, axes(box))])


def _takes(scene, stands, tool, point):
    setup = setup_of(scene, tool)
    places = setup.reach(setup.bits_of(stands))
    for box in setup.cutter:
        place = _place_for(setup.grid, places, box, point)
        if place is not None:
            return place
    return None


def takes(scene, stands, tool, point):
    """A place in the TOOL's reach at which the POINT lies within its cutter; None if there is none."""
    check_setting(scene, stands, tool)
    check_point(point)
    return _takes(scene, stands, tool, point)


def _is_place_for(scene, stands, tool, point, place):
    """Whether the place is in the TOOL's reach, and the POINT lies within its cutter there."""
    spot = tuple([difference(number, by) for number, by in zip(point, place)])
    if not any([where(box, spot) == 1 for box in tool[0]]):
        return False
    setup = setup_of(scene, tool)
    return setup.lot_of(setup.reach(setup.bits_of(stands))).has(place)


def shows_takes(scene, stands, tool, point, value):
    """Whether takes may tell this value."""
    check_setting(scene, stands, tool)
    check_point(point)
    if value is None:
        return _takes(scene, stands, tool, point) is None
    return is_point(value) and _is_place_for(scene, stands, tool, point, value)


def stages(scene, stands, tool):
    """What stands, and what is left of it each time when the TOOL went to all places of its reach."""
    check_setting(scene, stands, tool)
    setup = setup_of(scene, tool)
    return tuple([setup.lot_of(left) for left in setup.stages(setup.bits_of(stands))])


def behind(scene, stands, tool):
    """What stands behind a whole TURN of the TOOL."""
    check_setting(scene, stands, tool)
    setup = setup_of(scene, tool)
    return setup.lot_of(setup.behind(setup.bits_of(stands)))
