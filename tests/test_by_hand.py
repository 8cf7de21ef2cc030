"""Machines by hand: what a drawing of them would show."""

import unittest
from fractions import Fraction

from allitreaches.errors import Cuts, Meets, NotOutside, NoTool
from allitreaches.machine import Machine
from tests import own
from tests.samples import BARE, UNIT
from tests.values import assert_refused


def at(*row):
    return own.point_of(row)


def volume(number):
    return Fraction(number).as_integer_ratio()


class ByHand(unittest.TestCase):
    def check(self, machine, *rows):
        """Each line, and what is left behind it."""
        for line, left in rows:
            self.assertIsNone(machine.do(line), line)
            self.assertEqual(machine.volume(), volume(left), line)

    def test_a_hole(self):
        # Three by three, three deep; the hole is in the middle, and two deep.
        machine = Machine((), ((0, 3, 0, 3, 0, 3),), ((UNIT, ((0, 1, 0, 1, 1, 3),)),))
        self.check(machine, ("tool 0", 27), ("to 0 1 3", 27), ("to 1 1 3", 27), ("to 1 1 2", 26), ("to 1 1 1", 25))
        self.assertEqual(machine.place, at(1, 1, 1))
        for line in ("to 3/2 1 1", "to 1 1/2 1", "to 0 1 1", "to 9 1 1"):
            assert_refused(self, Meets, None, machine.do, line)
        self.assertEqual((machine.volume(), machine.place), (volume(25), at(1, 1, 1)))
        middle = Fraction(3, 2)
        for z, stands in ((3, False), (2, False), (Fraction(3, 2), False), (1, True), (Fraction(1, 2), True)):
            self.assertIs(machine.has(at(middle, middle, z)), stands)
            # Its wall stands, at the side and at the corner.
            self.assertIs(machine.has(at(1, middle, z)), True)
            self.assertIs(machine.has(at(1, 1, z)), True)
        self.check(machine, ("to 1 1 0", 24), ("to 1 1 -1", 24), ("to 1 1 -9", 24), ("to 1 1 3", 24))

    def test_a_cutter_alone_aside_in_a_hole(self):
        # Without a holder it goes aside in its hole, and takes what is above it not at all.
        machine = Machine((), ((0, 3, 0, 1, 0, 2),), (BARE,))
        self.check(machine, ("tool 0", 6), ("to 0 0 0", 4), ("to 1/2 0 0", Fraction(7, 2)), ("to 2 0 0", 2), ("to 0 0 0", 2))
        self.assertIs(machine.has(at(Fraction(5, 2), Fraction(1, 2), Fraction(3, 2))), True)
        self.assertIs(machine.has(at(Fraction(5, 2), Fraction(1, 2), Fraction(1, 2))), False)
        self.check(machine, ("to 0 0 2", 2), ("to 0 0 3/2", 2), ("to 1 0 3/2", Fraction(3, 2)), ("to 1 0 0", 1), ("to 1 0 5", 1))
        # The sheet between both layers went with what was above it, as the cutter came down there.
        self.assertIs(machine.has(at(Fraction(3, 2), Fraction(1, 2), 1)), False)
        self.assertIs(machine.has(at(Fraction(5, 2), Fraction(1, 2), 1)), True)

    def test_a_holder_in_a_hole(self):
        # A hole two wide, then a tool whose holder is as wide: it goes down, and not aside.
        wide = (((0, 2, 0, 1, 0, 1),), ())
        held = (((0, 1, 0, 1, 0, 1),), ((0, 2, 0, 1, 1, 3),))
        machine = Machine((), ((0, 4, 0, 1, 0, 3),), (wide, held))
        self.check(machine, ("tool 0", 12), ("to 1 0 3", 12), ("to 1 0 1", 8), ("to 1 0 3", 8), ("tool 1", 8), ("to 1 0 3", 8), ("to 1 0 1", 8))
        for line in ("to 1/2 0 1", "to 3/2 0 1", "to 2 0 1"):
            assert_refused(self, Meets, None, machine.do, line)
        # Deeper its holder comes to the bottom of the hole beside it.
        self.check(machine, ("to 1 0 1/2", Fraction(15, 2)), ("to 1 0 0", 7))
        assert_refused(self, Meets, None, machine.do, "to 1 0 -1")
        self.assertEqual((machine.place, machine.volume()), (at(1, 0, 0), volume(7)))

    def test_a_part_of_two_boxes_in_the_way(self):
        part = ((2, 3, 0, 1, 0, 2), (4, 5, 0, 1, 0, 3))
        machine = Machine(part, ((0, 6, 0, 1, 0, 3),), ((UNIT, ((0, 1, 0, 1, 1, 2),)),))
        self.check(machine, ("tool 0", 18), ("to -1 0 3", 18), ("to -1 0 2", 18))
        assert_refused(self, Cuts, 1, machine.do, "to 9 0 2")
        self.check(machine, ("to 3 0 2", 14), ("to 2 0 2", 14))
        assert_refused(self, Cuts, 0, machine.do, "to 2 0 1")
        # Who only went aside left the uppermost sheet, which its holder would meet: so it is taken from below first.
        self.check(machine, ("to 1 0 2", 14))
        assert_refused(self, Meets, None, machine.do, "to 1 0 1")
        self.check(machine, ("to 1 0 3", 14), ("to 1 0 1", 13))
        for line in ("to 9 0 1", "to 3/2 0 1", "to 3 0 1"):
            assert_refused(self, Cuts, 0, machine.do, line)
        # At its left end both sheets above it stand, until it comes down there.
        self.check(machine, ("to 0 0 1", 12))
        for line in ("to 0 0 0", "to 0 0 2", "to 0 0 1/2"):
            assert_refused(self, Meets, None, machine.do, line)
        self.check(machine, ("to 1 0 1", 12), ("to 1 0 3", 12), ("to 0 0 3", 12), ("to 0 0 0", 11), ("to 1 0 0", 10), ("to 1 0 9", 10))
        machine = Machine(part, ((0, 6, 0, 1, 0, 3),), ((((-1, 0, 0, 1, 0, 1),), ((0, 2, 0, 1, 1, 2),)),))
        self.check(machine, ("tool 0", 18), ("to -2 0 3", 18), ("to -2 0 0", 18), ("rem", 18))
        # Its holder is one higher, and two ahead of its cutter.
        assert_refused(self, Meets, None, machine.do, "to 0 0 0")
        assert_refused(self, Meets, 0, machine.do, "to 2 0 0")
        assert_refused(self, Cuts, 0, machine.do, "to 4 0 0")

    def test_tools_changed_outside_and_not(self):
        machine = Machine((), ((0, 2, 0, 2, 0, 2),), (BARE, (((0, 1, 0, 1, -2, -1),), UNIT)))
        self.check(machine, ("tool 0", 8), ("tool 1", 8), ("tool 1", 8), ("tool 0", 8), ("to 0 0 3/2", Fraction(15, 2)))
        place = machine.place
        self.assertEqual((place, machine.turns), (at(0, 0, Fraction(3, 2)), (0, 1, 1, 0)))
        for line in ("tool 1", "tool 0", "tool 2", "tool 999999999"):
            assert_refused(self, NotOutside, place, machine.do, line)
        # Beside the stock it is not outside either; just at the top it is.
        self.check(machine, ("to -9 0 3/2", Fraction(15, 2)))
        assert_refused(self, NotOutside, machine.place, machine.do, "tool 2")
        self.check(machine, ("to -9 0 2", Fraction(15, 2)))
        assert_refused(self, NoTool, 2, machine.do, "tool 2")
        self.check(machine, ("tool 1", Fraction(15, 2)))
        # This one reaches two below its place: so it is outside from 4 on.
        self.assertEqual((machine.place, machine.tool), (at(0, 0, 4), 1))
        self.check(machine, ("to 0 0 7/2", Fraction(15, 2)))
        assert_refused(self, NotOutside, machine.place, machine.do, "tool 0")
        self.check(machine, ("to 0 0 4", Fraction(15, 2)), ("tool 0", Fraction(15, 2)))
        self.assertEqual(machine.turns, (0, 1, 1, 0, 1, 0))

    def test_a_tool_that_there_is_not_and_none(self):
        machine = Machine((), UNIT, (BARE,))
        for line in ("to 0 0 0", "to 0 0 5", "to 1 2 3"):
            with self.assertRaises(NoTool) as caught:
                machine.do(line)
            self.assertIsNone(caught.exception.value)
        for number in (1, 2, 4, 123):
            with self.assertRaises(NoTool) as caught:
                machine.do(f"tool {number}")
            self.assertEqual(caught.exception.value, number)
        self.check(machine, ("rem", 1), ("rem ", 1), ("rem tool 0", 1))
        self.assertEqual((machine.tool, machine.place, machine.turns), (None, None, ()))
        self.check(machine, ("tool 0", 1))
        with self.assertRaises(NoTool) as caught:
            machine.do("tool 1")
        self.assertEqual((caught.exception.value, machine.tool, machine.turns), (1, 0, (0,)))

    def test_moves_of_no_length(self):
        machine = Machine((), UNIT, (BARE,))
        self.check(machine, ("tool 0", 1), ("to 0 0 1", 1), ("to 0 0 1", 1), ("to 0 0 0", 0), ("to 0 0 0", 0))

    def test_the_part_may_lie_beyond_the_stock(self):
        machine = Machine(((3, 4, 0, 1, 0, 8),), UNIT, (BARE,))
        self.check(machine, ("tool 0", 1))
        self.assertEqual(machine.place, at(0, 0, 8))
        self.check(machine, ("to 2 0 8", 1), ("to 2 0 0", 1))
        assert_refused(self, Cuts, 0, machine.do, "to 5/2 0 0")
        self.check(machine, ("to 1 0 0", 1), ("to 1/2 0 0", Fraction(1, 2)), ("to 0 0 0", 0), ("to -5 0 0", 0))
        self.assertIs(machine.has(at(3, 0, 5)), False)
        self.assertIs(machine.has(at(0, 0, 0)), True)

    def test_boxes_of_the_stock_that_overlap_count_once(self):
        machine = Machine((), ((0, 2, 0, 2, 0, 1), (1, 3, 0, 2, 0, 1), (0, 2, 0, 2, 0, 1)), (BARE,))
        self.check(machine, ("tool 0", 6), ("to 1 0 1", 6), ("to 1 0 0", 5))


if __name__ == "__main__":
    unittest.main()
