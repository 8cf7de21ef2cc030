"""The machine line by line, against an own one that goes moment by moment."""

import itertools
import unittest

from allitreaches.errors import NoLot
from allitreaches.lots import Lot, lot_of_boxes
from allitreaches.machine import halved, Machine
from tests import own, own_machine, own_mill, samples
from tests.machines import all_spots, check_spots, check_standing, new, refusal, settings, sides_of, some_lines
from tests.samples import BARE, NARROW, UNIT
from tests.values import assert_refused
from tests.wrong import bent_lots


def halves_of(cell):
    """The cells of halves of a CELL, by spots of it."""
    return {own_mill.half_of(spot) for spot in own_machine.quarters_of(cell)}


class Halved(unittest.TestCase):
    def check(self, cells):
        told = halved(Lot(tuple(cells)))
        self.assertIs(type(told), Lot)
        self.assertEqual(set(told.cells), {half for cell in cells for half in halves_of(cell)})

    def test_own_lots(self):
        chance = samples.some(61)
        for many in (0, 1, 2, 5, 40):
            for _ in range(20):
                self.check(samples.some_cells(chance, many, -9, 9))
        for part, stock in samples.SCENES.values():
            self.check(own.cells_in(stock))
            self.check(own.cells_within(part))

    def test_each_index(self):
        for k in range(-49, 50):
            for axis in range(3):
                row = [0, 0, 0]
                row[axis] = 2 * k
                self.assertEqual([cell[axis] for cell in halved(Lot((tuple(row),))).cells], [4 * k])
                row[axis] = 2 * k + 1
                self.assertEqual([cell[axis] for cell in halved(Lot((tuple(row),))).cells], [4 * k + 1, 4 * k + 2, 4 * k + 3])

    def test_at_the_bounds(self):
        for cell in itertools.product((-99, -98, 0, 99), repeat=3):
            self.check((cell,))

    def test_boxes_twice_as_far(self):
        for box in ((0, 2, 1, 3, -1, 0), (-8, -5, 0, 8, 2, 3)):
            self.assertEqual(halved(lot_of_boxes((box,))), lot_of_boxes((tuple(2 * number for number in box),)))

    def test_what_is_no_lot(self):
        for value in bent_lots():
            assert_refused(self, NoLot, value, halved, value)
        assert_refused(self, NoLot, None, halved, lot=None)
        self.assertEqual(halved(lot=Lot(())), Lot(()))


class LineByLine(unittest.TestCase):
    def test_against_an_own_machine(self):
        chance = samples.some(62)
        words = []
        for part, stock, tools in settings(63, 30):
            sides = sides_of(part, stock, tools)
            machine, mill = new(part, stock, tools)
            check_standing(self, machine, mill)
            for line, right in some_lines(chance, mill, sides, 80):
                self.assertEqual(refusal(machine.do, line), right, (part, stock, tools, line))
                check_standing(self, machine, mill)
                check_spots(self, machine, mill, chance, 3)
                words.append("done" if right is None else right[0] + str(right[1])[:4] * (right[0] == "Meets"))
            check_spots(self, machine, mill, chance, 60)
        for word, least in (("done", 300), ("Cuts", 20), ("MeetsNone", 50), ("Askew", 5), ("NoTool", 10), ("NotOutside", 5), ("BadLine", 10)):
            self.assertGreaterEqual(words.count(word), least, word)
        self.assertGreater(len([word for word in words if word.startswith("Meets") and word != "MeetsNone"]), 3)

    def test_all_spots_of_a_small_stock(self):
        machine, mill = new((), ((0, 1, 0, 2, 0, 1),), (NARROW,))
        for line in ("tool 0", "to 0 1/2 1", "to 0 1/2 1/2"):
            self.assertIsNone(machine.do(line))
            self.assertIsNone(mill.do(line))
            for point in all_spots(mill.stock):
                self.assertIs(machine.has(point), mill.has(own.numbers(point)), point)

    def test_at_first(self):
        for part, stock, tools in settings(64, 10):
            machine = Machine(part, stock, tools)
            self.assertEqual((machine.part, machine.stock, machine.tools), (part, stock, tools))
            self.assertEqual((machine.tool, machine.place, machine.turns), (None, None, ()))
            self.assertEqual(machine.lot(), halved(lot_of_boxes(stock)))
            self.assertEqual(machine.volume(), (lot_of_boxes(stock).cubes, 1))

    def test_attributes_are_there_at_once(self):
        machine = Machine((), UNIT, (BARE,))
        for name in ("part", "stock", "tools", "tool", "place", "turns"):
            self.assertTrue(hasattr(machine, name))

    def test_kinds_of_what_is_told(self):
        machine = Machine((), UNIT, (BARE,))
        for line in ("tool 0", "to 1/2 0 1", "to 1/2 0 1/2"):
            self.assertIsNone(machine.do(line=line))
            self.assertEqual([type(value) for value in (machine.tool, machine.place, machine.turns, machine.lot(), machine.volume())],
                             [int, tuple, tuple, Lot, tuple])
            self.assertEqual([type(part) for number in machine.place for part in number], [int] * 6)
            self.assertIs(machine.has(point=((0, 1), (0, 1), (0, 1))), True)

    def test_a_tool_comes_in_at_its_beginning(self):
        scenes = [((), UNIT), (((0, 1, 0, 1, 6, 8),), UNIT), (((0, 1, 0, 1, 0, 1),), ((0, 1, 0, 1, 0, 5),)), samples.OUTER]
        for part, stock in scenes:
            for tool in samples.TOOLS.values():
                machine = Machine(part, stock, (BARE, tool))
                machine.do("tool 1")
                self.assertEqual(machine.place, ((0, 1), (0, 1), (own.lowest_outside(part, stock, tool), 1)))
                self.assertEqual((machine.tool, machine.turns), (1, (1,)))
                self.assertEqual(machine.lot(), halved(lot_of_boxes(stock)))

    def test_far_moves(self):
        machine, mill = new((), ((0, 2, 0, 1, 0, 1),), (BARE, NARROW))
        far = 10 ** 8
        for line in ("tool 0", f"to 0 0 {far}", f"to -{far} 0 {far}", f"to -{far} 0 0"):
            self.assertIsNone(machine.do(line))
            self.assertEqual(machine.volume(), (2, 1))
        self.assertIsNone(machine.do(f"to {far} 0 0"))
        self.assertEqual((machine.volume(), machine.place), ((0, 1), ((far, 1), (0, 1), (0, 1))))
        self.assertEqual(refusal(machine.do, "tool 1"), ("NotOutside", ((far, 1), (0, 1), (0, 1))))
        self.assertIsNone(machine.do(f"to {far} 0 {far}"))
        self.assertIsNone(machine.do("tool 1"))
        self.assertEqual((machine.turns, machine.place), ((0, 1), ((0, 1), (0, 1), (1, 1))))
        # Of the sheets at the ends, of no thickness, the cutter took just what lay within it.
        lot = lot_of_boxes(((0, 4, 0, 0 + 2, 0, 2),))
        self.assertEqual(set(machine.lot().cells), {cell for cell in lot.cells if cell[1] in (0, 4) or cell[2] in (0, 4)})
        for line in ("tool 0", "to -1 0 1", "to -1 0 0", "to 3 0 0"):
            self.assertIsNone(mill.do(line))
        self.assertEqual(set(machine.lot().cells), mill.halves())


if __name__ == "__main__":
    unittest.main()
