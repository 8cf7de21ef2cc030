"""Straight moves in any direction: what they meet first."""

from allitreaches.places import check_setting
from allitreaches.points import check_point, is_fraction
from allitreaches.ratios import lesser
from allitreaches.reasons import entries, is_reason, refuse_barred


def _check(scene, stands, tool, one, other):
    check_setting(scene, stands, tool)
    check_point(one)
    check_point(other)
    refuse_barred(scene, stands, tool, one)


def _first_entries(scene, stands, tool, one, other):
    """Those (moment, reason) of the move that come first."""
    found = entries(scene, stands, tool, one, other)
    first = (1, 1)
    for moment, _ in found:
        first = lesser(first, moment)
    return [entry for entry in found if entry[0] == first]


def first_met(scene, stands, tool, one, other):
    """The last moment up to which the TOOL can stand, and a reason behind it; None if the way is clear."""
    _check(scene, stands, tool, one, other)
    found = _first_entries(scene, stands, tool, one, other)
    return found[0] if found else None


def shows_first_met(scene, stands, tool, one, other, value):
    """Whether first_met may tell this value."""
    _check(scene, stands, tool, one, other)
    found = _first_entries(scene, stands, tool, one, other)
    if value is None:
        return not found
    if not isinstance(value, tuple) or len(value) != 2:
        return False
    return is_fraction(value[0]) and is_reason(value[1]) and value in found


def clear(scene, stands, tool, one, other):
    """Whether the TOOL can stand at all places of the straight way from one to other."""
    return first_met(scene, stands, tool, one, other) is None
