"""What cutters take, turns stage by stage, and places for spots."""

import itertools
import unittest
from fractions import Fraction

from allitreaches.errors import BadPoint, BadTool, NoLot, NoScene, TooFar
from allitreaches.lots import Lot, lot_of_boxes, swept
from allitreaches.places import reach, Scene
from allitreaches.taking import behind, shows_takes, stages, taken, takes
from tests import own, samples
from tests.samples import BARE, NARROW, UNIT, WIDE
from tests.values import assert_refused, strange
from tests.wrong import CUBE, ZERO, bent_lots, bent_points, bent_scenes, bent_tools, check_refusals

CUTTER = UNIT
SLAB = ((0, 4, 0, 1, 0, 3),)
PILLARS = (((0, 1, 0, 1, 0, 3), (3, 4, 0, 1, 0, 3)), SLAB)
HALF, THIRD = Fraction(1, 2), Fraction(1, 3)


def all_settings():
    return itertools.product(samples.SCENES.values(), samples.TOOLS.values())


class Taken(unittest.TestCase):
    def test_axis_by_axis(self):
        for index in range(-5, 6):
            for low, high in itertools.combinations(range(-4, 5), 2):
                first, last = own.ends(index)
                reckoned = {spot for spot in range(-30, 31) if first + low < own.sample_of((spot,))[0] < last + high}
                for axis in range(3):
                    cell, box = [0, 1, 0], list(CUBE)
                    cell[axis] = index
                    box[2 * axis:2 * axis + 2] = low, high
                    told = taken(((tuple(box),), ()), Lot((tuple(cell),)))
                    self.assertEqual({spot[axis] for spot in told.cells}, reckoned)

    def test_just_the_cells_of_which_a_spot_lies_within_the_cutter(self):
        chance = samples.some(21)
        for many, (word, tool) in itertools.product((1, 3, 9, 30), samples.TOOLS.items()):
            cells = samples.some_cells(chance, many, -5, 6)
            told = taken(tool, Lot(cells))
            self.assertEqual(set(told.cells), own.swept(cells, tool[0]))
            self.assertEqual(told, swept(Lot(cells), tool[0]))

    def test_by_spots_at_places(self):
        # Tried out spot by spot, at places by sevenths.
        cutter = ((0, 2, 0, 1, 0, 1), (-1, 0, 0, 1, 0, 1))
        for index in (0, 1):
            places = [Fraction(0)] if index == 0 else [Fraction(at, 7) for at in range(1, 7)]
            told = taken((cutter, ()), Lot(((index, 0, 0),)))
            for number in range(-28, 29):
                spot = (Fraction(number, 14), HALF, HALF)
                within = [own.lies_within(box, (spot[0] - place, HALF, HALF)) for box in cutter for place in places]
                if any(within):
                    self.assertIs(told.has(own.point_of(spot)), True)
                elif index == 0:
                    self.assertIs(told.has(own.point_of(spot)), False)

    def test_holders_take_nothing(self):
        lot = Lot(((0, 0, 0), (1, 3, 5)))
        self.assertEqual(taken((UNIT, ()), lot), taken(WIDE, lot))
        self.assertEqual(taken(BARE, Lot(())), Lot(()))

    def test_too_far(self):
        far = (((3, 4, 0, 1, 0, 1),), ((0, 1, 0, 1, 0, 1),))
        for index in range(185, 201):
            lot = Lot(((index, 0, 0), (0, 0, 0)))
            if max(spot[0] for spot in own.swept(lot.cells, far[0])) > 200:
                assert_refused(self, TooFar, None, taken, far, lot)
            else:
                self.assertEqual(set(taken(far, lot).cells), own.swept(lot.cells, far[0]))
        # The holder may go where it likes.
        self.assertEqual(taken((((-4, -3, 0, 1, 0, 1),), ((3, 4, 0, 1, 0, 1),)), Lot(((200, 0, 0),))).cells, ((193, 1, 1),))
        assert_refused(self, TooFar, None, taken, (((-4, -3, 0, 1, 0, 1),), ()), Lot(((-194, 0, 0),)))


class Stages(unittest.TestCase):
    def check(self, part, stock, tool, stands=None):
        scene = Scene(part, stock)
        lot = scene.stands if stands is None else Lot(tuple(stands))
        told = stages(scene, lot, tool)
        self.assertIs(type(told), tuple)
        self.assertEqual([set(row.cells) for row in told], own.stages(part, stock, set(lot.cells), tool))
        self.assertEqual(told[0], lot)
        left = behind(scene, lot, tool)
        self.assertEqual(left, told[-1])
        self.assertEqual(taken(tool, reach(scene, left, tool)).both(left), Lot(()))
        return told

    def test_against_own_stages(self):
        for (part, stock), tool in list(all_settings())[::2]:
            told = self.check(part, stock, tool)
            for one, other in zip(told, told[1:]):
                self.assertEqual(other, one.less(taken(tool, reach(Scene(part, stock), one, tool))))
                self.assertLess(len(other), len(one))

    def test_by_chance(self):
        chance = samples.some(22)
        for _ in range(25):
            part, stock = samples.some_scene(chance, 3)
            cells = sorted(own.cells_in(stock))
            stands = chance.choice([cells, [cell for cell in cells if chance.random() < 0.5]])
            self.check(part, stock, samples.some_tool(chance, 2), stands)

    def test_a_second_turn_takes_nothing(self):
        for (part, stock), tool in list(all_settings())[::2]:
            scene = Scene(part, stock)
            left = behind(scene, scene.stands, tool)
            self.assertEqual(behind(scene, left, tool), left)
            self.assertEqual(stages(scene, left, tool), (left,))
            self.assertIs(left.is_closed, True)

    def test_what_stands_less_comes_to_no_more(self):
        chance = samples.some(23)
        for (part, stock), tool in list(all_settings())[::3]:
            scene = Scene(part, stock)
            left = behind(scene, scene.stands, tool)
            fewer = Lot(tuple(cell for cell in scene.stands.cells if chance.random() < 0.7))
            self.assertIs(behind(scene, fewer, tool).is_in(left), True)
            self.assertIs(left.is_in(scene.stands), True)

    def test_the_part_stays(self):
        for (part, stock), tool in all_settings():
            scene = Scene(part, stock)
            self.assertIs(lot_of_boxes(part).both(scene.stands).is_in(behind(scene, scene.stands, tool)), True)

    def test_narrow_wide_high_and_no_holders(self):
        narrow, wide, high = [(CUTTER, holder) for holder in (((0, 1, 0, 1, 1, 2),), ((-1, 2, 0, 1, 1, 2),), ((0, 1, 0, 1, 1, 4),))]
        self.assertEqual([lot.cubes for lot in self.check((), SLAB, wide)], [12, 8, 4, 0, 0])
        self.assertEqual([len(lot) for lot in self.check((), SLAB, BARE)], [len(Scene((), SLAB).stands), 0])
        told = [self.check(*PILLARS, tool)[-1].cubes for tool in (BARE, narrow, wide, high)]
        self.assertEqual(told, [6, 6, 10, 6])
        roofed = (PILLARS[0] + ((0, 4, 0, 1, 5, 6),), SLAB)
        self.assertEqual([self.check(*roofed, tool)[-1].cubes for tool in (BARE, narrow, high)], [6, 6, 12])
        under = (((0, 4, 0, 2, 3, 4),), SLAB)
        self.assertEqual([self.check(*under, tool)[-1].cubes for tool in (BARE, narrow, high)], [0, 12, 12])

    def test_a_slab_on_a_leg(self):
        leg = (((0, 3, 0, 3, 2, 3), (1, 2, 1, 2, 0, 2)), ((0, 3, 0, 3, 0, 3),))
        self.assertEqual(self.check(*leg, BARE)[-1].cubes, 11)
        self.assertEqual(self.check(*leg, NARROW)[-1].cubes, 27)

    def test_a_hole_in_a_block(self):
        for depth in range(1, 5):
            part = ((0, 3, 0, 1, 0, 4), (0, 3, 2, 3, 0, 4), (0, 1, 1, 2, 0, 4), (2, 3, 1, 2, 0, 4))
            hole = (part + ((1, 2, 1, 2, 0, 4 - depth),) if depth < 4 else part, ((0, 3, 0, 3, 0, 4),))
            for length in (1, 2, 3):
                tool = (((0, 1, 0, 1, 0, length),), ((-1, 2, -1, 2, length, length + 1),))
                told = self.check(*hole, tool)
                self.assertEqual(told[0].cubes - told[-1].cubes, min(depth, length))

    def test_stands_that_are_not_closed(self):
        scene, tool = Scene((), ((0, 2, 0, 1, 0, 2),)), NARROW
        for cells in (((1, 1, 1),), ((2, 1, 3), (1, 1, 0)), ((0, 0, 0), (1, 1, 3), (3, 1, 1))):
            self.check((), scene.stock, tool, cells)


class PlacesForSpots(unittest.TestCase):
    def spots(self, part, stock):
        rows = [[Fraction(low) - 2, Fraction(low), low + THIRD, Fraction(low) + HALF, Fraction(low + 1), Fraction(high), high + HALF]
                for low, high in own.axes(stock[0])]
        return list(itertools.product(*rows))

    def test_a_place_just_if_there_is_one(self):
        chance = samples.some(24)
        found = []
        for (part, stock), tool in list(all_settings())[::4]:
            scene = Scene(part, stock)
            come_to = own.reach(part, stock, own.cells_in(stock), tool)
            within = own.swept(come_to, tool[0])
            for spot in chance.sample(self.spots(part, stock), 8):
                point = own.point_of(spot)
                told = takes(scene, scene.stands, tool, point)
                self.assertIs(told is not None, own.cell_at(spot) in within, (part, stock, tool, spot))
                found.append(told is None)
                self.assertIs(shows_takes(scene, scene.stands, tool, point, told), True)
                self.assertIs(shows_takes(scene, scene.stands, tool, point, None), told is None)
                if told is not None:
                    place = own.numbers(told)
                    self.assertIn(own.cell_at(place), come_to)
                    row = [number - by for number, by in zip(spot, place)]
                    self.assertTrue(any(own.lies_within(box, row) for box in tool[0]))
        self.assertEqual(set(found), {True, False})

    def test_shows_each_such_place_and_no_other(self):
        for name, word in (("hole", "narrow"), ("table", "side"), ("apart", "bent"), ("block", "high")):
            (part, stock), tool = samples.SCENES[name], samples.TOOLS[word]
            scene, come_to = Scene(part, stock), own.reach(part, stock, own.cells_in(stock), tool)
            for spot in self.spots(part, stock)[::50]:
                point, shown = own.point_of(spot), []
                for step in itertools.product((-1, -THIRD, 0, HALF, 1), repeat=3):
                    place = tuple(number - by - HALF for number, by in zip(spot, step))
                    within = any(own.lies_within(box, [number - by for number, by in zip(spot, place)]) for box in tool[0])
                    right = within and own.cell_at(place) in come_to
                    shown.append(right)
                    self.assertIs(shows_takes(scene, scene.stands, tool, point, own.point_of(place)), right)
                if any(shown):
                    self.assertIsNotNone(takes(scene, scene.stands, tool, point))

    def test_just_within_the_cutter(self):
        scene, tool = Scene((), ((0, 1, 0, 1, 0, 1),)), BARE
        spot = own.point_of((HALF, HALF, HALF))
        for x, shown in ((HALF, False), (-HALF, False), (Fraction(49, 100), True), (Fraction(-49, 100), True), (0, True), (2, False)):
            self.assertIs(shows_takes(scene, scene.stands, tool, spot, own.point_of((x, 0, 0))), shown)

    def test_only_places_of_the_room_count(self):
        scene = Scene((), UNIT)
        far = own.point_of((100, 0, 0))
        self.assertIsNone(takes(scene, scene.stands, BARE, far))
        self.assertIs(shows_takes(scene, scene.stands, BARE, far, own.point_of((Fraction(199, 2), -HALF, -HALF))), False)
        self.assertIs(shows_takes(scene, scene.stands, BARE, far, None), True)
        self.assertIsNone(takes(scene, scene.stands, BARE, own.point_of((10 ** 30, THIRD, -10 ** 30))))

    def test_values_of_other_kinds(self):
        scene = Scene((), UNIT)
        spot = own.point_of((HALF, HALF, HALF))
        told = takes(scene, scene.stands, BARE, spot)
        self.assertIs(shows_takes(scene, scene.stands, BARE, spot, ZERO), True)
        for value in strange() + bent_points() + [list(told), (told,), ((0, 1), (0, 1), (False, 1)), (0, 0, 0), scene, scene.stands]:
            self.assertIs(shows_takes(scene, scene.stands, BARE, spot, value), False)


class Refused(unittest.TestCase):
    def rows(self, *more):
        return [("scene", Scene((), UNIT), NoScene, bent_scenes()), ("stands", Lot(()), NoLot, bent_lots()),
                ("tool", BARE, BadTool, bent_tools()), *more]

    def test_in_the_sequence_of_the_parameters(self):
        for look in (stages, behind):
            check_refusals(self, look, self.rows())
        check_refusals(self, takes, self.rows(("point", ZERO, BadPoint, bent_points())))
        for value in (None, ZERO, (), 0):
            check_refusals(self, shows_takes, self.rows(("point", ZERO, BadPoint, bent_points()), ("value", value, None, [])))
        check_refusals(self, taken, [("tool", BARE, BadTool, bent_tools()), ("lot", Lot(()), NoLot, bent_lots())])

    def test_too_far_comes_last(self):
        far = Lot(((200, 200, 200),))
        assert_refused(self, TooFar, None, taken, BARE, far)
        assert_refused(self, TooFar, None, taken, lot=far, tool=BARE)
        assert_refused(self, BadTool, None, taken, None, far)


if __name__ == "__main__":
    unittest.main()
