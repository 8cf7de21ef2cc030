"""The errors: their names, what they derive from, and their value."""

import copy
import inspect
import unittest

from allitreaches import errors
from allitreaches.errors import ReachError
from tests.values import strange

NAMES = """ReachError, BadPoint, BadBox, BadPart, BadStock, BadTool, BadTools, BadCell, BadCells, NoLot, NoScene,
BadNumber, NotFree, BadRow, BadProgram, BadLine, NoMachine, Cuts, Meets, NoTool, NotOutside, BadDrawing,
NothingToUndo, NothingToRedo, NoBlock, BadJournal, BadTask, BadBoxes, TooFar, NoDrawing, NoFence, BadPath,
BadMoves, Stopped, Askew, BadCorner"""


def listed():
    return [getattr(errors, name) for name in NAMES.replace(",", " ").split()]


class Errors(unittest.TestCase):
    def test_all_that_the_interface_lists_are_there(self):
        names = sorted(name for name, kind in vars(errors).items() if inspect.isclass(kind))
        self.assertEqual(names, sorted(NAMES.replace(",", " ").split()))
        self.assertEqual(len(names), 36)
        for kind in listed():
            self.assertEqual(kind.__module__, "allitreaches.errors")

    def test_all_stand_directly_below_reach_error(self):
        self.assertEqual(ReachError.__bases__, (ValueError,))
        for kind in listed()[1:]:
            self.assertEqual(kind.__bases__, (ReachError,), kind)

    def test_any_value_is_kept(self):
        for kind in listed():
            for value in strange() + [(0, 1), "0 0 0", 10 ** 5000]:
                self.assertIs(kind(value).value, value)

    def test_they_are_raised_and_caught(self):
        for kind in listed():
            value = ["very", "this"]
            for caught in (kind, ReachError, ValueError):
                with self.assertRaises(caught) as held:
                    raise kind(value)
                self.assertIs(type(held.exception), kind)
                self.assertIs(held.exception.value, value)

    def test_each_object_has_its_own_value(self):
        one, other = errors.BadPoint(1), errors.BadPoint(2)
        self.assertEqual([one.value, other.value], [1, 2])
        self.assertEqual(copy.copy(other).value, 2)

    def test_there_is_just_one_argument(self):
        for kind in listed():
            self.assertRaises(TypeError, kind)
            self.assertRaises(TypeError, kind, 1, 2)


if __name__ == "__main__":
    unittest.main()
