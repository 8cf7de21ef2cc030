"""Scenes and tools that the tests look at."""

import random

UNIT = ((0, 1, 0, 1, 0, 1),)

BARE = (UNIT, ())
NARROW = (UNIT, ((0, 1, 0, 1, 1, 2),))
HIGH = (UNIT, ((0, 1, 0, 1, 1, 4),))
WIDE = (UNIT, ((-1, 2, -1, 2, 1, 2),))
FLAT = (((0, 2, 0, 1, 0, 1),), ((0, 1, 0, 1, 1, 2),))
BENT = (((0, 2, 0, 1, 0, 1), (0, 1, 0, 2, 0, 1)), ((0, 1, 0, 1, 1, 2), (-1, 1, 0, 1, 2, 3)))
LOW = (((-1, 0, -1, 1, -2, -1),), ((-1, 1, -1, 0, -1, 0),))
SIDE = (UNIT, ((1, 2, 0, 1, 0, 1),))
UNDER = (((0, 1, 0, 1, 1, 2),), ((0, 1, 0, 1, 0, 1),))

TOOLS = {"bare": BARE, "narrow": NARROW, "high": HIGH, "wide": WIDE, "flat": FLAT, "bent": BENT, "low": LOW,
         "side": SIDE, "under": UNDER}

BLOCK = ((), ((0, 2, 0, 2, 0, 2),))
COLUMN = ((), ((3, 4, 5, 6, 0, 3),))
TABLE = (((0, 3, 0, 3, 2, 3), (1, 2, 1, 2, 0, 2)), ((0, 3, 0, 3, 0, 3),))
HOLE = (((0, 1, 0, 3, 0, 2), (2, 3, 0, 3, 0, 2), (1, 2, 0, 1, 0, 2), (1, 2, 2, 3, 0, 2)), ((0, 3, 0, 3, 0, 2),))
STEPS = (((5, 8, 6, 8, 0, 1), (7, 8, 6, 8, 0, 2)), ((5, 8, 6, 8, 0, 2), (6, 7, 7, 8, 0, 3)))
APART = (((0, 1, 0, 1, 0, 3),), ((0, 1, 0, 1, 0, 2), (2, 3, 0, 1, 0, 1), (0, 3, 0, 1, 0, 1)))
OUTER = (((0, 2, 0, 1, 4, 5),), ((0, 2, 0, 1, 0, 1),))
CHEST = (((0, 3, 0, 1, 0, 3), (0, 3, 2, 3, 0, 3), (0, 1, 0, 3, 0, 3), (2, 3, 0, 3, 0, 3), (0, 3, 0, 3, 0, 1),
          (0, 3, 0, 3, 2, 3)), ((0, 3, 0, 3, 0, 3),))

SCENES = {"block": BLOCK, "column": COLUMN, "table": TABLE, "hole": HOLE, "steps": STEPS, "apart": APART,
          "outer": OUTER, "chest": CHEST}

POCKET = (((0, 4, 0, 1, 0, 3), (0, 4, 2, 3, 0, 3), (0, 1, 1, 2, 0, 3), (3, 4, 1, 2, 0, 3), (2, 3, 1, 2, 0, 1)),
          ((0, 4, 0, 3, 0, 3),))
BROAD = (((0, 2, 0, 1, 0, 1),), ())
STEPPED = (((0, 1, 0, 1, 0, 1),), ((0, 2, 0, 1, 1, 3),))
SHAFT = (((0, 1, 0, 1, 0, 3), (2, 3, 0, 1, 0, 3)), ((0, 3, 0, 1, 0, 3),))
# Its holder lies above its cutter and below it: no stock of two layers goes between.
IDLE = (UNIT, ((-4, 4, -4, 4, 1, 4), (-4, 4, -4, 4, -4, 0)))

# PARTS and STOCKS, each with TOOLS that have turns in it.
TURNS = [
    (POCKET, (BROAD, STEPPED)), (POCKET, (STEPPED, BROAD)), (POCKET, (STEPPED, STEPPED)), (POCKET, (IDLE, STEPPED, BROAD)),
    (POCKET, (BROAD,)), (TABLE, (SIDE, NARROW)), (TABLE, (FLAT, UNDER)), (HOLE, (WIDE, NARROW)),
    (APART, (WIDE, LOW, BARE)), (STEPS, (UNDER, SIDE, LOW)), (BLOCK, (IDLE,)),
    (OUTER, (HIGH, SIDE)), (CHEST, (BARE, NARROW)), (SHAFT, (WIDE, STEPPED)), (BLOCK, (BARE, BARE)),
]

# Such as want three TOOLS, each of which is needed.
THREE = [
    ((((2, 3, 2, 3, 1, 2), (1, 3, 2, 3, 0, 2), (0, 3, 0, 1, 0, 1)), ((0, 3, 0, 3, 0, 3),)),
     ((((-2, 0, -2, -1, 0, 2), (-2, 0, -2, 0, 0, 1)), ((0, 2, -2, -1, -1, 1),)),
      (((-2, 0, 0, 1, -1, 1),), ((0, 2, 0, 2, -2, -1), (-2, 0, 1, 2, 1, 2))),
      (((-1, 0, -1, 1, 1, 2), (-1, 1, 0, 2, 0, 2)), ((1, 2, 1, 2, 0, 1), (-1, 1, 0, 1, -1, 0))),
      (((-2, 0, 1, 2, 1, 2), (-1, 1, 0, 2, 1, 2)), ()))),
    ((((1, 3, 0, 2, 2, 3), (1, 2, 1, 2, 1, 3)), ((0, 3, 0, 3, 0, 3),)),
     ((((1, 2, -2, -1, 0, 2),), ((1, 2, -1, 0, 1, 2),)), (((-1, 1, -1, 0, -1, 1),), ((-1, 0, 0, 1, 0, 1), (-1, 0, 1, 2, 0, 2))),
      (((0, 2, -1, 0, -2, -1),), ((1, 2, 1, 2, 0, 2), (-2, 0, 1, 2, -2, 0))))),
]


def some(seed):
    """A source of chances that are the same each time."""
    return random.Random(seed)


def some_box(chance, low, high, most):
    """A BOX with numbers from low to high, none of its sides longer than most."""
    box = []
    for _ in range(3):
        first = chance.randint(low, high - 1)
        box += [first, chance.randint(first + 1, min(high, first + most))]
    return tuple(box)


def some_scene(chance, side):
    """A part and a stock with numbers from 0 to side."""
    part = tuple(some_box(chance, 0, side, side) for _ in range(chance.randint(0, 2)))
    return part, tuple(some_box(chance, 0, side, side) for _ in range(chance.randint(1, 2)))


def some_tool(chance, side):
    """A tool with numbers from -side to side."""
    while True:
        cutter = tuple(some_box(chance, -side, side, 2) for _ in range(chance.randint(1, 2)))
        holder = tuple(some_box(chance, -side, side, 2) for _ in range(chance.randint(0, 2)))
        if not any(all(max(a[at], b[at]) < min(a[at + 1], b[at + 1]) for at in (0, 2, 4)) for a in cutter for b in holder):
            return cutter, holder


def some_cells(chance, many, low, high):
    return tuple(tuple(chance.randint(low, high) for _ in range(3)) for _ in range(many))
