"""Reasons why a TOOL can't stand at a place, and when a straight move comes upon them."""

from allitreaches.boxes import axes, grown
from allitreaches.cells import cell_of, is_cell, swept_span
from allitreaches.errors import NotFree
from allitreaches.integers import is_integer
from allitreaches.ratios import difference, greater, is_less, lesser, ratio


def _touched(box, lows, highs):
    """On each axis the least and the greatest index within the BOX, for places from the one CELL to the other."""
    return [(swept_span(low, near, far)[0], swept_span(high, near, far)[1])
            for (near, far), low, high in zip(axes(box), lows, highs)]


def _with_part(word, boxes, part, lows, highs):
    found = []
    for b, box in enumerate(boxes):
        spans = _touched(box, lows, highs)
        for a, kept in enumerate(part):
            if all([first <= 2 * high and 2 * low <= last for (first, last), (low, high) in zip(spans, axes(kept))]):
                found.append((word, b, a))
    return found


def _with_cells(holder, cells, lows, highs):
    found = []
    for b, box in enumerate(holder):
        (x0, x1), (y0, y1), (z0, z1) = _touched(box, lows, highs)
        found.extend([("stands", b, (x, y, z)) for x, y, z in cells
                      if x0 <= x <= x1 and y0 <= y <= y1 and z0 <= z <= z1])
    return found


def _reasons_between(scene, stands, tool, lows, highs):
    """All reasons that may hold at places from the one CELL to the other; if both are the same, those that do."""
    cutter, holder = tool
    found = _with_part("cutter", cutter, scene.part, lows, highs)
    found.extend(_with_part("holder", holder, scene.part, lows, highs))
    found.extend(_with_cells(holder, stands.cells, lows, highs))
    return found


def reasons_at(scene, stands, tool, cell):
    """The ascending list of the reasons that hold on this CELL of places."""
    return _reasons_between(scene, stands, tool, cell, cell)


def refuse_barred(scene, stands, tool, point):
    """Refuses a place at which the TOOL can't stand."""
    if reasons_at(scene, stands, tool, cell_of(point)):
        raise NotFree(point)


def is_reason(value):
    """Whether any value has the form of a reason."""
    if not isinstance(value, tuple) or len(value) != 3:
        return False
    word, b, met = value
    if not isinstance(word, str) or not is_integer(b):
        return False
    return is_cell(met) if word == "stands" else is_integer(met)


def _places_of(scene, tool, reason):
    """The numbers on each axis between which the places lie where the reason holds."""
    word, b, met = reason
    cutter, holder = tool
    if word == "cutter":
        return axes(grown(scene.part[met], cutter[b]))
    if word == "holder":
        return axes(grown(scene.part[met], holder[b]))
    # A number is a box without thickness on its axis, and so no BOX.
    return [(index // 2 - far, (index + 1) // 2 - near) for index, (near, far) in zip(met, axes(holder[b]))]


def _moment(number, start, way):
    """The moment at which the move comes to this number, or would: way is what it goes in the time 1."""
    return ratio((number * start[1] - start[0]) * way[1], start[1] * way[0])


def _time_between(low, high, start, way):
    """The first and the last of all moments between which it lies between both numbers; None if there are none."""
    if way[0] == 0:
        return ((0, 1), (1, 1)) if low * start[1] < start[0] < high * start[1] else None
    ends = (_moment(low, start, way), _moment(high, start, way))
    return ends if way[0] > 0 else ends[::-1]


def _entry(spans, one, other):
    """The moment behind which the move comes between all these numbers; None if it never does."""
    first, last = (0, 1), (1, 1)
    for (low, high), start, end in zip(spans, one, other):
        times = _time_between(low, high, start, difference(end, start))
        if times is None:
            return None
        first, last = greater(first, times[0]), lesser(last, times[1])
    return first if is_less(first, last) else None


def entries(scene, stands, tool, one, other):
    """All (moment, reason) of the straight move from one, where the TOOL can stand, to other.

    What lies within a BOX lies within it a little earlier, too: so the
    moment is the last one at which the reason doesn't hold yet.
    """
    ends = list(zip(cell_of(one), cell_of(other)))
    lows, highs = [min(pair) for pair in ends], [max(pair) for pair in ends]
    found = []
    for reason in _reasons_between(scene, stands, tool, lows, highs):
        moment = _entry(_places_of(scene, tool, reason), one, other)
        if moment is not None:
            found.append((moment, reason))
    return found
