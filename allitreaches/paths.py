"""PATHS: turns on a grid of halves, place by place."""

from allitreaches.errors import BadPath, Cuts, Meets
from allitreaches.halves import Milling, doubled
from allitreaches.lines import differ_on_one_axis, straightened
from allitreaches.places import check_setting
from allitreaches.points import is_of_halves, is_point
from allitreaches.ratios import ratio
from allitreaches.setups import setup_of
from allitreaches.tours import tour


def is_path(value):
    """Whether any value is a PATH."""
    if not isinstance(value, tuple) or not value or not all([is_point(point) for point in value]):
        return False
    if not all([is_of_halves(point) for point in value]):
        return False
    return all([differ_on_one_axis(one, other) for one, other in zip(value, value[1:])])


def path(scene, stands, tool):
    """A PATH from outside to outside, behind which just what behind tells stands."""
    check_setting(scene, stands, tool)
    setup = setup_of(scene, tool)
    return tuple(straightened(tour(scene, setup, setup.bits_of(stands))))


def _walked(milling, stands, row):
    """How many of the PATH's POINTS are come to, and the bits of what stands then."""
    before = doubled(row[0])
    for number, point in enumerate(row):
        place = doubled(point)
        try:
            stands = milling.left(stands, before, place)
        except (Cuts, Meets):
            return (number, stands)
        before = place
    return (len(row), stands)


def shows_path(scene, stands, tool, value):
    """Whether path may tell this value."""
    check_setting(scene, stands, tool)
    milling, setup = Milling(scene.part, scene.stock, tool), setup_of(scene, tool)
    if not is_path(value) or not all([milling.is_outside(point) for point in (value[0], value[-1])]):
        return False
    many, left = _walked(milling, milling.bits_of(stands), value)
    whole = setup.lot_of(setup.behind(setup.bits_of(stands)))
    return many == len(value) and left == milling.bits_of(whole)


def walked(scene, stands, tool, path):
    """("done", the volume taken), or ("stops", the number of the first POINT that isn't come to)."""
    check_setting(scene, stands, tool)
    if not is_path(path):
        raise BadPath(path)
    milling = Milling(scene.part, scene.stock, tool)
    first = milling.bits_of(stands)
    many, left = _walked(milling, first, path)
    if many < len(path):
        return ("stops", many)
    return ("done", ratio(milling.eighths_of(first & ~left), 8))
