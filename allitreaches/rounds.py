"""Whole TURNS of several TOOLS, one behind the other."""

from allitreaches.grids import many_of
from allitreaches.kinds import check_row, check_tools, is_row
from allitreaches.places import check_scene
from allitreaches.setups import Setup, grid_of


def _check(scene, tools):
    check_scene(scene)
    check_tools(tools)


def _setups(scene, tools):
    """The Setups of all TOOLS, on one Grid."""
    grid = grid_of(scene, tools)
    return [Setup(grid, scene, tool) for tool in tools]


def _first(scene, setups):
    """The bits of what stands at first."""
    return setups[0].bits_of(scene.stands)


def _left_by(setups, stands, row):
    """The bits of what stands behind this ROW."""
    for number in row:
        stands = setups[number].behind(stands)
    return stands


def stands_behind(scene, tools, row):
    """What stands behind this ROW of whole TURNS."""
    _check(scene, tools)
    check_row(row, tools)
    setups = _setups(scene, tools)
    return setups[0].lot_of(_left_by(setups, _first(scene, setups), row))


def _rounds(scene, setups):
    """The (number, CELLS taken) of all TURNS that took something, and the bits of what stands then."""
    stands = _first(scene, setups)
    turns = []
    number = idle = 0
    while idle < len(setups):
        left = setups[number].behind(stands)
        idle += 1
        if left != stands:
            turns.append((number, many_of(stands & ~left)))
            stands = left
            idle = 0
        number = (number + 1) % len(setups)
    return (tuple(turns), stands)


def rounds(scene, tools):
    """The TURNS that took something when all TOOLS go on until none takes more."""
    _check(scene, tools)
    return _rounds(scene, _setups(scene, tools))[0]


def least(scene, tools):
    """What no TURNS of these TOOLS take."""
    _check(scene, tools)
    setups = _setups(scene, tools)
    return setups[0].lot_of(_rounds(scene, setups)[1])


def _turned(setups, known, rows):
    """The (ROW, bits of what stands behind it) with one TURN more, and known with these bits."""
    further = []
    for row, stands in rows:
        for number, setup in enumerate(setups):
            left = setup.behind(stands)
            # Behind a sooner ROW that leaves no more, whatever follows leaves no more, too.
            if not any([other & left == other for other in known]):
                known = known + [left]
                further.append((row + (number,), left))
    return (further, known)


def _fewest(scene, setups):
    goal = _rounds(scene, setups)[1]
    stands = _first(scene, setups)
    rows, known = [((), stands)], [stands]
    while True:
        for row, left in rows:
            if left == goal:
                return row
        rows, known = _turned(setups, known, rows)


def fewest(scene, tools):
    """The first of the shortest ROWS behind which just least stands."""
    _check(scene, tools)
    return _fewest(scene, _setups(scene, tools))


def shows_fewest(scene, tools, value):
    """Whether any value is one of the shortest ROWS behind which just least stands."""
    _check(scene, tools)
    setups = _setups(scene, tools)
    if not is_row(value, tools) or len(value) != len(_fewest(scene, setups)):
        return False
    return _left_by(setups, _first(scene, setups), value) == _rounds(scene, setups)[1]


def lacks(scene, tools, row):
    """What stands behind this ROW, and not in least."""
    _check(scene, tools)
    check_row(row, tools)
    setups = _setups(scene, tools)
    first = _first(scene, setups)
    return setups[0].lot_of(_left_by(setups, first, row) & ~_rounds(scene, setups)[1])
