"""What a move of the machine meets first, each on a copy."""

import unittest
from fractions import Fraction

from allitreaches.errors import Cuts, Meets
from allitreaches.machine import Machine
from tests import samples
from tests.machines import HALF, check_standing, line_to, new, refusal, settings, sides_of, some_lines
from tests.samples import UNIT
from tests.values import assert_refused

# Whatever a post of it is met by is met in a sequence that tells which comes ahead of which.
POSTS = ((4, 5, 0, 1, 0, 2), (3, 4, 2, 3, 0, 3), (2, 3, 0, 1, 0, 1), (4, 5, 0, 1, 0, 2))
MANY = [
    (POSTS, ((0, 5, 0, 3, 0, 3),), ((UNIT, ((1, 2, 0, 1, 0, 1),)), (UNIT, ((0, 1, 0, 1, 1, 3),)))),
    (POSTS[::-1], ((0, 5, 0, 1, 0, 2), (0, 2, 0, 3, 0, 3)), (((UNIT[0], (1, 2, 0, 1, 1, 2)), ((0, 1, 0, 1, 1, 2), (-1, 0, 0, 1, 0, 1))),)),
    (POSTS[1:2], ((0, 4, 0, 2, 0, 2),), ((((0, 1, 0, 1, 0, 1), (1, 3, 0, 1, 1, 2)), ((-1, 1, 0, 1, 1, 2), (1, 2, 0, 1, 0, 1))),)),
]


def moves_from(mill, sides):
    """Lines to places along each axis, far and near; also the place itself, and one askew."""
    here = [Fraction(number, 8) for number in mill.place]
    rows = [here, [here[0] + HALF, here[1] - HALF, here[2]]]
    for axis in range(3):
        goals = [here[axis] + by for by in (-3, -Fraction(3, 2), -1, -HALF, HALF, 1, 2)]
        goals += [Fraction(low_or_high + by) for low_or_high in sides[axis] for by in (0, -HALF, HALF, -1, 1, 9, -9)]
        rows += [here[:axis] + [goal] + here[axis + 1:] for goal in goals]
    return [line_to(row) for row in rows]


class EachOnACopy(unittest.TestCase):
    def check(self, machine, mill, line, words):
        before, other, own = machine.copy(), machine.copy(), mill.copy()
        right = own.do(line)
        self.assertEqual(refusal(other.do, line), right, (mill.part, mill.stock, mill.tools, mill.place, line))
        words.append("done" if right is None else right)
        self.assertIs(other == machine, right is not None or own.place == mill.place)
        self.assertIs(machine == before, True)
        # What stands is looked at now and then only: all of it takes long.
        if right is None and words.count("done") % 8 == 0:
            check_standing(self, other, own)
        self.assertEqual((other.place, other.turns), (own.point(), own.turns))

    def test_moves_along_each_axis(self):
        chance = samples.some(71)
        words = []
        for part, stock, tools in MANY * 2 + settings(72, 6):
            sides = sides_of(part, stock, tools)
            machine, mill = new(part, stock, tools)
            for number, (line, right) in enumerate(some_lines(chance, mill, sides, 45)):
                self.assertEqual(refusal(machine.do, line), right)
                # Of the places led to, those within the stock tell most.
                if mill.tool is not None and right is None and number % 7 == 0:
                    for further in moves_from(mill, sides):
                        self.check(machine, mill, further, words)
                    check_standing(self, machine, mill)
        self.assertGreater(words.count("done"), 1000)
        for word, least in ((("Cuts", 0), 50), (("Cuts", 1), 10), (("Meets", None), 200), (("Meets", 0), 20), (("Meets", 1), 3)):
            self.assertGreater(words.count(word), least, word)


class InSequence(unittest.TestCase):
    """By hand: the least BOX that the cutter comes to, the least that the holder does, what stands."""

    def machine(self, part, tool, *lines):
        machine = Machine(part, ((0, 5, 0, 3, 0, 3),), (tool,))
        for line in ("tool 0",) + lines:
            self.assertIsNone(machine.do(line))
        return machine

    def test_the_least_box_that_the_cutter_cuts(self):
        # Straight on at z = 0 the cutter comes to BOX 2 first, then to 0 and 3.
        machine = self.machine(POSTS, (UNIT, ()), "to -2 0 3", "to -2 0 0")
        assert_refused(self, Cuts, 0, machine.do, "to 9 0 0")
        assert_refused(self, Cuts, 2, machine.do, "to 3/2 0 0")
        self.assertIsNone(machine.do("to 1 0 0"))
        for part, number in (((POSTS[2],), 0), (POSTS[:0:-1], 0), (POSTS[2:], 0), (POSTS[:3], 0), (POSTS[1:3], 1), (POSTS[1:], 1)):
            machine = self.machine(part, (UNIT, ()), "to -2 0 3", "to -2 0 0")
            assert_refused(self, Cuts, number, machine.do, "to 9 0 0")

    def test_cuts_ahead_of_meets(self):
        # A holder above it comes to BOX 1 at once, the cutter to BOX 2 in the end.
        tool = (UNIT, ((0, 1, 0, 1, 1, 3),))
        part = ((2, 3, 0, 1, 1, 2), (1, 2, 0, 1, 2, 3), (3, 4, 0, 1, 0, 1))
        machine = self.machine(part, tool, "to -2 0 3", "to -2 0 0")
        assert_refused(self, Cuts, 2, machine.do, "to 4 0 0")
        # Less far it meets both BOXES of the part, and what stands: the least BOX is told.
        assert_refused(self, Meets, 0, machine.do, "to 2 0 0")
        assert_refused(self, Meets, 1, machine.do, "to 1 0 0")
        assert_refused(self, Meets, None, machine.do, "to 0 0 0")
        assert_refused(self, Meets, None, machine.do, "to -1/2 0 0")
        self.assertIsNone(machine.do("to -1 0 0"))
        self.assertEqual(machine.place, ((-1, 1), (0, 1), (0, 1)))

    def test_what_was_cut_before_is_not_counted(self):
        tool = (UNIT, ((0, 1, 0, 1, 1, 3),))
        machine = self.machine((), tool, "to -2 0 3", "to -2 0 2", "to 9 0 2", "to -2 0 2", "to -2 0 1")
        self.assertEqual(machine.volume(), (40, 1))
        self.assertEqual(refusal(machine.do, "to 9 0 1"), ("Meets", None))
        # The sheet between both layers stands yet: only in the layer itself, and not at its ends, it went.
        other = self.machine((), (UNIT, ()), "to -2 0 3", "to -2 0 2", "to 9 0 2")
        self.assertIs(other.has(((1, 2), (1, 2), (2, 1))), True)

    def test_fronts_of_several_boxes(self):
        # The holder's front lies at 1, the cutter's BOXES at its height have theirs at 2, 0, -1; also two of them.
        wall, met = ((0, 4, 0, 1, 0, 1),), ("Meets", None)
        for fronts, right in (((2,), None), ((0,), met), ((-1,), met), ((0, 2), None), ((2, -1), None), ((0, -1), met)):
            cutter = tuple((ahead - 1, ahead, 0, 1, 0, 1) for ahead in fronts)
            machine, mill = new((), wall, ((cutter, UNIT),))
            for line in ("tool 0", "to -6 0 1", "to -6 0 0"):
                self.assertEqual([refusal(machine.do, line), mill.do(line)], [None, None])
            self.assertEqual([refusal(machine.do, "to 9 0 0"), mill.do("to 9 0 0")], [right] * 2, fronts)
            check_standing(self, machine, mill)

    def test_a_front_that_is_not_as_far_ahead_meets_just_what_stood(self):
        # Where the layer was taken ahead of it, a holder may lead.
        tools = ((UNIT, ()), (((-2, -1, 0, 1, 0, 1),), UNIT))
        for first, right in (((), ("Meets", None)), (("tool 0", "to -6 0 1", "to -6 0 0", "to 9 0 0", "to 9 0 1"), None)):
            machine, mill = new((), ((0, 4, 0, 1, 0, 1),), tools)
            for line in first + ("tool 1", "to -6 0 1", "to -6 0 0"):
                self.assertEqual([refusal(machine.do, line), mill.do(line)], [None, None])
            self.assertEqual([refusal(machine.do, "to 6 0 0"), mill.do("to 6 0 0")], [right] * 2)
            check_standing(self, machine, mill)


class Copies(unittest.TestCase):
    def test_they_stand_by_themselves(self):
        part, stock, tools = (), ((0, 2, 0, 2, 0, 2),), (samples.NARROW, samples.BARE)
        machine, mill = new(part, stock, tools)
        rows = [(machine, mill)]
        for line in ("tool 0", "to 0 0 1", "to 1/2 0 1", "to 9 0 1", "to 9 0 9", "tool 1", "to 0 0 0", "to 1 0 0", "to 5 5 5", "rem"):
            machine, mill = machine.copy(), mill.copy()
            self.assertEqual(refusal(machine.do, line), mill.do(line))
            rows.append((machine, mill))
        for machine, mill in rows:
            check_standing(self, machine, mill)
            self.assertIs(machine.copy() == machine, True)
            self.assertIsNot(machine.copy(), machine)


if __name__ == "__main__":
    unittest.main()
