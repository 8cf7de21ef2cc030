"""Scenes, and what places refuse."""

import itertools
import unittest

from allitreaches.errors import BadPart, BadPoint, BadStock, BadTool, NoLot, NoScene
from allitreaches.lots import Lot
from allitreaches.places import can_stand, free, meets, outside, reach, room, Scene
from tests import own, samples
from tests.samples import BARE, NARROW, UNIT
from tests.values import strange
from tests.wrong import (CUBE, ZERO, bent_lots, bent_parts, bent_points, bent_scenes, bent_stocks, bent_tools,
                         check_refusals)

SCENE = Scene((), UNIT)


class Scenes(unittest.TestCase):
    def test_what_they_have(self):
        for part, stock in samples.SCENES.values():
            scene = Scene(part, stock)
            self.assertEqual((scene.part, scene.stock), (part, stock))
            self.assertEqual(set(scene.stands.cells), own.cells_in(stock))
            self.assertIs(type(scene.stands), Lot)
            self.assertEqual(scene.top, max(box[5] for box in part + stock))
            self.assertIs(type(scene.top), int)

    def test_bounds(self):
        whole = ((0, 8, 0, 8, 0, 8),)
        self.assertEqual(len(Scene(whole * 6, whole * 3).stands), 17 ** 3)
        self.assertEqual([Scene(((0, 1, 0, 1, 7, 8),), UNIT).top, Scene((), UNIT).top], [8, 1])

    def test_equal_ones(self):
        rows = list(samples.SCENES.values()) + [((), UNIT), (UNIT, UNIT), ((), UNIT * 2), (UNIT * 2, UNIT), ((), (UNIT[0], (0, 1, 0, 1, 1, 2))),
                                                ((), ((0, 1, 0, 1, 1, 2), UNIT[0]))]
        for (at, one), (number, other) in itertools.product(enumerate(rows), repeat=2):
            self.assertIs(Scene(*one) == Scene(*other), at == number)
            self.assertIs(Scene(*one) != Scene(*other), at != number)

    def test_equal_to_nothing_else(self):
        for value in strange() + [((), UNIT), SCENE.stands, (SCENE,), [SCENE]]:
            self.assertIs(SCENE == value, False)
            self.assertIs(value == SCENE, False)
            self.assertIs(SCENE != value, True)
        for look in (lambda a, b: a < b, lambda a, b: a + b, lambda a, b: a & b):
            self.assertRaises(TypeError, look, SCENE, SCENE)

    def test_attributes_are_there_at_once(self):
        for name in ("part", "stock", "stands", "top"):
            self.assertIn(name, vars(SCENE))

    def test_refused(self):
        check_refusals(self, Scene, [("part", UNIT, BadPart, bent_parts()), ("stock", UNIT, BadStock, bent_stocks())])


class Refused(unittest.TestCase):
    def rows(self, *names):
        told = {
            "scene": ("scene", SCENE, NoScene, bent_scenes()),
            "stands": ("stands", Lot(()), NoLot, bent_lots()),
            "tool": ("tool", BARE, BadTool, bent_tools()),
            "point": ("point", ZERO, BadPoint, bent_points()),
        }
        return [told[name] for name in names]

    def test_places(self):
        for look in (can_stand, meets):
            check_refusals(self, look, self.rows("scene", "stands", "tool", "point"))

    def test_lots_of_places(self):
        for look in (free, reach):
            check_refusals(self, look, self.rows("scene", "stands", "tool"))
        for look in (room, outside):
            check_refusals(self, look, self.rows("scene", "tool"))


class ToolsThatAreLet(unittest.TestCase):
    def test_no_spot_within_both(self):
        # BOXES of a cutter and a holder may touch at sides, edges and corners, but not overlap.
        for step in itertools.product((-1, 0, 1), repeat=3):
            other = tuple(number + step[at // 2] for at, number in enumerate(CUBE))
            for tool in ((UNIT, (other,)), ((other,), UNIT), (((-4, -3, 0, 1, 0, 1), CUBE), ((3, 4, 0, 1, 0, 1), other))):
                if step == (0, 0, 0):
                    self.assertRaises(BadTool, room, SCENE, tool)
                else:
                    self.assertEqual(room(SCENE, tool), own.room((), UNIT, tool))

    def test_how_many_boxes(self):
        upper = (0, 1, 0, 1, 1, 2)
        for cutter, holder in itertools.product(range(5), range(5)):
            tool = (UNIT * cutter, (upper,) * holder)
            if 1 <= cutter <= 3 and holder <= 3:
                self.assertEqual(room(SCENE, tool), own.room((), UNIT, tool))
            else:
                self.assertRaises(BadTool, room, SCENE, tool)

    def test_numbers_at_their_bounds(self):
        tool = (((-4, 4, -4, 4, -4, 0),), ((-4, 4, -4, 4, 0, 4),))
        self.assertEqual(room(SCENE, tool), (-5, 6, -5, 6, -5, 6))
        self.assertEqual(room(Scene((), ((0, 8, 0, 8, 0, 8),)), NARROW), (-2, 9, -2, 9, -3, 9))


if __name__ == "__main__":
    unittest.main()
