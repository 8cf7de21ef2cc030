"""Rows of POINTS, neighbours of which differ on one axis at most."""

from allitreaches.ratios import is_less


def differ_on_one_axis(one, other):
    """Whether two POINTS differ on one axis at most."""
    return len([axis for axis in range(3) if one[axis] != other[axis]]) <= 1


def steps_to(start, goal):
    """The POINTS that lead from start to goal, start left out, by one axis behind the other."""
    points = []
    for axis in range(3):
        start = start[:axis] + (goal[axis],) + start[axis + 1:]
        points.append(start)
    return points


def _direction(one, other):
    return [1 if is_less(start, end) else -1 if is_less(end, start) else 0 for start, end in zip(one, other)]


def straightened(points):
    """The row of POINTS without those at which it neither stops nor turns."""
    row = points[:1]
    for point in points[1:]:
        if point == row[-1]:
            continue
        if len(row) > 1 and _direction(row[-2], row[-1]) == _direction(row[-1], point):
            row[-1] = point
        else:
            row.append(point)
    return row
