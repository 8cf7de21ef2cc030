"""Whether a PART can be made with some TOOLS, and if not, for want of what."""

from allitreaches.boxes import axes
from allitreaches.lots import Lot, lot_of_boxes
from allitreaches.places import check_scene
from allitreaches.rounds import least


def rest(scene, tools):
    """What no turns of these TOOLS take, though it is not of the PART."""
    return least(scene, tools).less(lot_of_boxes(scene.part))


def fits(scene, tools):
    """Whether nothing but the PART is left."""
    return len(rest(scene, tools)) == 0


def _is_under(cell, box):
    """Whether a spot of the BOX is straight above one of the CELL's."""
    inside = [2 * low <= index <= 2 * high for index, (low, high) in zip(cell, axes(box))]
    return inside[0] and inside[1] and cell[2] < 2 * box[5]


def undercuts(scene):
    """What stands at first straight under the PART, and not in it."""
    check_scene(scene)
    beside = scene.stands.less(lot_of_boxes(scene.part))
    return Lot(tuple([cell for cell in beside.cells if any([_is_under(cell, box) for box in scene.part])]))


def by_holders(scene, tools):
    """What is left only as the holders are in the way."""
    left = rest(scene, tools)
    return left.less(rest(scene, tuple([(cutter, ()) for cutter, _ in tools])))


def _left_without(scene, tools, number):
    """What no turns of all other TOOLS take."""
    others = tools[:number] + tools[number + 1:]
    return least(scene, others) if others else scene.stands


def needed(scene, tools):
    """The numbers of the TOOLS without which more is left."""
    left = least(scene, tools)
    return tuple([number for number in range(len(tools)) if _left_without(scene, tools, number) != left])
