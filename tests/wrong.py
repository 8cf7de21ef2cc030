"""Values that are almost, or not at all, what the document asks for."""

from allitreaches.drawings import Drawing
from allitreaches.errors import ReachError
from allitreaches.lots import Lot, lot_of_boxes
from allitreaches.places import Scene
from tests.samples import BARE, NARROW, UNIT
from tests.values import assert_refused, replaced, strange

CUBE = (0, 1, 0, 1, 0, 1)
ZERO = ((0, 1), (0, 1), (0, 1))


def bent_boxes():
    """Values that are no BOXES."""
    bent = strange() + [list(CUBE), CUBE[:5], CUBE + (2,), (CUBE,), [CUBE], ((0, 1), (0, 1), (0, 1)), "0..1 0..1 0..1"]
    for at in range(6):
        for number in (None, True, False, "0", (0,), [0], (0, 1), {}, b"0"):
            bent.append(replaced((-5, 5) * 3, at, number))
    for at in (0, 2, 4):
        for low, high in ((0, 0), (1, 0), (1, 1), (0, -1), (-1, -1), (999999999, -999999999)):
            bent.append(CUBE[:at] + (low, high) + CUBE[at + 2:])
    return bent + [(0, 0) * 3, (1, 0) * 3, (False, True) * 3, (0, True) * 3, (False, 1) * 3]


def bent_corners():
    """Values that are no tuples of three integers."""
    bent = [value for value in strange() if value != (0, 1, 2)]
    bent += [(), (0,), (0, 0), (0, 0, 0, 0), [0, 0, 0], "0 0 0", ZERO, {0: 0, 1: 0, 2: 0}, (0, 0, (0,)), ((0, 0, 0),)]
    for at in range(3):
        for number in (None, True, False, "0", "", (0, 1), [0], {}):
            bent.append(replaced((0, 1, 2), at, number))
    return bent


def bent_points():
    """Values that are no POINTS."""
    bent = strange() + [(0, 0, 0), ((0, 1), (0, 1)), ZERO + ((0, 1),), list(ZERO), "0 0 0", tuple(map(list, ZERO))]
    for at in range(3):
        for part in ((0, 2), (2, 4), (1, 0), (1, -2), (0, 0), (True, 1), (0, True), [0, 1], 0, None, (1,), (1, 1, 1)):
            bent.append(replaced(ZERO, at, part))
    return bent


def bent_cells():
    """Values that are no CELLS."""
    bent = strange() + [[0, 0, 0], (0, 0), (0, 0, 0, 0), ((0, 0, 0),), "000", ZERO, {0: 0, 1: 1, 2: 2}]
    for at in range(3):
        bent += [replaced((1, 2, -3), at, index) for index in (True, False, None, "1", (1,), [1], (1, 1), {}, Lot(()))]
    return bent


def bent_lots():
    """Values that are no Lots."""
    lot = Lot(((0, 0, 0),))
    return strange() + [((0, 0, 0),), lot.cells, [lot], (lot,), {0: lot}, CUBE, (CUBE,), Scene((), UNIT), ReachError(lot)]


def bent_scenes():
    """Values that are no Scenes."""
    scene = Scene((), UNIT)
    return strange() + [((), UNIT), [scene], (scene,), {0: scene}, scene.stands, scene.stock, CUBE, ReachError(scene)]


def bent_tuples_of_boxes(low, high):
    """Values that are no tuples of some BOXES with numbers from low to high."""
    bent = [value for value in strange() if value != ()] + [CUBE, [CUBE], {CUBE: CUBE}, ((CUBE,),), (CUBE, [CUBE])]
    bent += [(box,) for box in bent_boxes()] + [(CUBE, box) for box in bent_boxes()[::7]] + [lot_of_boxes(UNIT)]
    for at in range(3):
        bent += [(replaced(CUBE, 2 * at, low - 1),), (CUBE, replaced(CUBE, 2 * at + 1, high + 1))]
        bent += [(replaced(CUBE, 2 * at, -10 ** 8),), (replaced(CUBE, 2 * at + 1, 10 ** 8), CUBE)]
    return bent


def bent_parts():
    """Values that are no PARTS."""
    return bent_tuples_of_boxes(0, 8) + [(CUBE,) * 7, (CUBE,) * 12]


def bent_stocks():
    """Values that are no STOCKS."""
    return bent_tuples_of_boxes(0, 8) + [(), (CUBE,) * 4, (CUBE,) * 9]


def bent_tools():
    """Values that are no TOOLS."""
    upper, other = (0, 1, 0, 1, 1, 2), (-4, 4, -4, 4, -4, 0)
    bent = strange() + [UNIT, (UNIT,), [UNIT, ()], (UNIT, (), ()), (UNIT, []), ([CUBE], ()), (CUBE, ()), (UNIT, CUBE),
                        {0: UNIT, 1: ()}, (UNIT, None), (None, ()), (UNIT, False), (lot_of_boxes(UNIT), ())]
    bent += [((), ()), ((), UNIT), (UNIT * 4, ()), (UNIT, (upper,) * 4)]
    bent += [(boxes, ()) for boxes in bent_tuples_of_boxes(-4, 4)]
    bent += [(UNIT, boxes) for boxes in bent_tuples_of_boxes(-4, 4)]
    for at in range(3):
        for low, high in ((-5, -4), (4, 5), (-5, -2), (2, 5)):
            far = CUBE[:2 * at] + (low, high) + CUBE[2 * at + 2:]
            bent += [(UNIT, (far,)), ((far,), ()), ((CUBE, far), (upper,)), (UNIT, (upper, far))]
    # A spot within both, in whichever BOXES.
    bent += [(UNIT, UNIT), ((CUBE, other), ((0, 1, 0, 1, -1, 2),)), (UNIT, (upper, other, (0, 4, -1, 4, -4, 2))),
             ((upper, CUBE), (other, (-4, 1, 0, 4, 0, 1))), (((0, 2, 0, 2, 0, 2),), ((1, 3, 1, 3, 1, 3),))]
    return bent


def bent_toolss():
    """Values that are no TOOLS of 1 to 4."""
    bent = strange() + [BARE, [BARE], (), (BARE,) * 5, (NARROW,) * 9, {0: BARE}, ((BARE,),), (BARE, None), (BARE, [UNIT, ()])]
    return bent + [(BARE, tool) for tool in bent_tools()[::5]] + [(tool,) for tool in bent_tools()[::3]]


def bent_rows(many):
    """Values that are no ROWS of turns of so many tools."""
    bent = [value for value in strange() if value not in ((), (0, 1), (0, 1, 0, 1, 0), (0, 1, 0, 1, 0, 1, 0), (0, 1, 2, 3))]
    bent += [[], [0], 0, (many,), (0, many), (-1,), (0, -1), (True,), (False,), (0, True), (0, None), ("0",), ((0,),)]
    return bent + [(0, 1, [0]), (0, 10 ** 8), (0, BARE), "0", {0: 0}]


def check_refusals(test, look, rows):
    """That look refuses what is wrong in each place, whatever is wrong behind it.

    A row for each parameter, in sequence: its name, a right value, the error, and wrong values.
    """
    names = [name for name, _, _, _ in rows]
    right = [value for _, value, _, _ in rows]
    for at, (_, _, error, bent) in enumerate(rows):
        last = [values[-1] if values else good for _, good, _, values in rows[at + 1:]]
        for number, value in enumerate(bent):
            before = repr(value)
            assert_refused(test, error, value, look, *right[:at], value, *right[at + 1:])
            if number % 5 == 0:
                row = right[:at] + [value] + last
                assert_refused(test, error, value, look, *row)
                assert_refused(test, error, value, look, **dict(list(zip(names, row))[::-1]))
            test.assertEqual(repr(value), before)
    test.assertEqual(look(*right), look(**dict(list(zip(names, right))[::-1])))


def bent_lines():
    """Strings that are no lines of a program; some of them have line feeds."""
    bent = ["", " ", "x", "tool", "tool ", "to", "to ", "remark", "REM", "Rem x", "Tool 0", "TO 0 0 0", "tools 0", "too 0", "t", "undo"]
    bent += [f"tool {word}" for word in ("-1", "-0", "+1", "00", "01", "1 ", " 1", "1 2", "1/1", "1/2", "0.0", "a", "None", "1_0", "one")]
    for word in ("+1", "01", "-01", "-0", "2/2", "1/1", "0/1", "0/2", "4/2", "1/3", "-2/3", "1/4", "1/-2", "01/2", "-0/2", "1/02", "1/0",
                 "/2", "1/", "1/2/2", "a", "", "1.5", "1_0", "--1", "- 1", "1e3"):
        bent += [f"to {word} 0 0", f"to 0 {word} 0", f"to 0 0 {word}"]
    bent += ["to 0 0", "to 0", "to 0 0 0 0", "to  0 0 0", "to 0  0 0", "to 0 0  0", "to 0 0 0 ", " to 0 0 0", "to 0,0,0", "to0 0 0", "to 0 0 0 rem"]
    bent += ["tool  0", " tool 0", "tool 0 rem", "tool0", " rem", "rem\n", "rem x\n", "tool 0\n", "\nrem", "to 0 0 0\n", "remx", "rems a"]
    return bent + ["tool 0\ntool", "rem\nto 0 0 0 ", "rem\n\nrem"]


def bent_moves():
    """Values that are no MOVES."""
    bent = strange() + [("tool",), ("tool", 0, 0), ["tool", 0], "tool 0", ("tool", -1), ("tool", True), ("tool", False), ("tool", None),
                        ("tool", "0"), ("tool", (0, 1)), ("tool", [0]), ("to", 0), ("to", "0 0 0"), ("to",), ("to", 0, 0, 0), ("To", ZERO),
                        ("to", ZERO, ZERO), ["to", ZERO], {"to": ZERO}, ("rem",), ("rem", None), ("rem", 0), ("rem", "a", "b"), ("rem", "\n"),
                        ("rem", "a\nb"), ("rem", ["a"]), ("rem", ("a",)), ["rem", "a"], ("", "a"), (None, "a"), ("remark", "a"),
                        ("tool", ZERO), ("to", "a"), ("rem", ZERO), (("tool", 0),), (Lot(()), 0), (0, "tool"), ("undo", ""), ("to", Lot(()))]
    for at in range(3):
        bent += [("to", replaced(ZERO, at, part)) for part in ((1, 3), (2, 2), (2, 4), (1, -2), (True, 1), (0, True), [1, 2], 0, (1, 4))]
    return bent


def bent_drawings():
    """Values that are no Drawings."""
    drawing = Drawing("stock 0..1 0..1 0..1\ntool\ncut 0..1 0..1 0..1")
    return strange() + [drawing.text, [drawing], (drawing,), {0: drawing}, drawing.stock, Scene((), UNIT), ReachError(drawing), Lot(())]
