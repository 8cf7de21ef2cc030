"""Machines beside the tests' own ones: what both do with a line, and how they stand."""

import itertools
from fractions import Fraction

from allitreaches.errors import ReachError
from allitreaches.machine import Machine
from tests import own, samples
from tests.own_mill import OwnMill

HALF = Fraction(1, 2)
COLLAR = (((0, 1, 0, 1, 0, 1),), ((-1, 2, 0, 1, 1, 2),))

SETTINGS = [
    (samples.BLOCK, (samples.NARROW, samples.BARE)), (samples.COLUMN, (samples.HIGH, samples.UNDER)),
    (samples.TABLE, (samples.SIDE, samples.NARROW)), (samples.HOLE, (samples.NARROW, samples.WIDE, samples.HIGH)),
    (samples.STEPS, (samples.FLAT, samples.LOW)), (samples.APART, (samples.BENT, COLLAR)), (samples.OUTER, (samples.LOW, samples.BARE)),
    (samples.CHEST, (samples.BARE,)), (samples.BLOCK, (samples.LOW, samples.SIDE, samples.BENT, samples.UNDER)),
]


def some_held_tool(chance):
    """A tool by chance that has a holder."""
    while True:
        tool = samples.some_tool(chance, 2)
        if tool[1]:
            return tool


def settings(seed, many):
    """PARTS, STOCKS and TOOLS: those above, and some by chance."""
    chance = samples.some(seed)
    rows = [(part, stock, tools) for (part, stock), tools in SETTINGS]
    for number in range(many):
        part, stock = samples.some_scene(chance, 3)
        tools = tuple(some_held_tool(chance) for _ in range(chance.randint(1, 3)))
        rows.append((part[:number % 3], stock, tools + (samples.some_tool(chance, 2),)))
    return rows


def refusal(look, *args):
    """None if look returned None, otherwise the name of the error and its value."""
    try:
        told = look(*args)
    except ReachError as error:
        return (type(error).__name__, error.value)
    return None if told is None else ("returned", told)


def number_text(number):
    return str(Fraction(number))


def line_to(row):
    return "to " + " ".join(map(number_text, row))


def sides_of(part, stock, tools):
    """The least and the greatest numbers of the ROOMS on each axis."""
    rooms = [own.axes(own.room(part, stock, tool)) for tool in tools]
    return [(min(low for low, _ in spans), max(high for _, high in spans)) for spans in zip(*rooms)]


def some_line(chance, mill, sides):
    """A line for the own machine as it stands: mostly a move along an axis."""
    dice = chance.random()
    if mill.tool is None and dice < 0.9 or dice < 0.05:
        return f"tool {chance.randint(0, len(mill.tools))}"
    if dice < 0.1:
        return chance.choice(("rem", "rem ", "rem on", "to 1", "tool", "", "to 0 0 1/3", "to 01 0 0", "rems"))
    row = [Fraction(number, 8) for number in mill.place or (0, 0, 0)]
    if dice < 0.15:
        row[chance.randrange(3)] += HALF
    elif dice < 0.18:
        return line_to(row)
    elif dice < 0.22 and mill.tool is not None:
        return line_to(row[:2] + [mill.lowest()])
    axis = chance.choice((0, 1, 2, 2))
    # Into the stock, and about it, rather than far from it.
    stock = [side(box[2 * axis + at] for box in mill.stock) for at, side in enumerate((min, max))]
    low, high = chance.choice((sides[axis], stock, stock, stock))
    row[axis] = chance.choice((Fraction(chance.randint(2 * low, 2 * high), 2),) * 2 + (row[axis] + chance.choice((-1, -HALF, HALF, 1)),))
    return line_to(row)


def some_lines(chance, mill, sides, many):
    """Lines by chance; the own machine does them."""
    for _ in range(many):
        line = some_line(chance, mill, sides)
        yield line, mill.do(line)


def check_standing(test, machine, mill):
    """That the machine stands as the own one does."""
    test.assertEqual((machine.part, machine.stock, machine.tools), (mill.part, mill.stock, mill.tools))
    test.assertEqual((machine.tool, machine.place, machine.turns), (mill.tool, mill.point(), mill.turns))
    test.assertEqual(machine.volume(), mill.volume())
    test.assertEqual(set(machine.lot().cells), mill.halves())


def check_spots(test, machine, mill, chance, many):
    """That the machine has the spots that the own one has: at whole numbers, halves, thirds, and others."""
    halves = mill.halves()
    low, high = [side(number for box in mill.stock for number in box) for side in (min, max)]
    for _ in range(many):
        bottoms = [chance.choice((1, 2, 2, 3, 4, 5)) for _ in range(3)]
        row = [Fraction(chance.randint((low - 1) * bottom, (high + 1) * bottom), bottom) for bottom in bottoms]
        right = own.cell_at([2 * number for number in row]) in halves
        test.assertIs(machine.has(own.point_of(row)), right, row)


def new(part, stock, tools):
    """A machine and an own one, alike."""
    return Machine(part, stock, tools), OwnMill(part, stock, tools)


def all_spots(stock):
    """POINTS at halves and quarters all over the STOCK."""
    low, high = [side(number for box in stock for number in box) for side in (min, max)]
    return [own.point_of(Fraction(number, 4) for number in row) for row in itertools.product(range(4 * low - 1, 4 * high + 2), repeat=3)]
