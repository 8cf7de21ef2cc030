"""PATHS: what is told can be done, moment by moment, and leaves just what it must."""

import itertools
import unittest
from fractions import Fraction

from allitreaches.errors import BadPath, BadTool, NoLot, NoScene
from allitreaches.lots import Lot, lot_of_boxes
from allitreaches.paths import path, shows_path, walked
from allitreaches.places import Scene
from allitreaches.taking import behind
from tests import own, samples
from tests.own_machine import OwnMachine, is_outside, is_path_for
from tests.samples import BARE, NARROW, SIDE, UNDER, UNIT, WIDE
from tests.values import assert_refused, replaced, strange
from tests.wrong import ZERO, bent_lots, bent_points, bent_scenes, bent_tools, check_refusals

HALF = Fraction(1, 2)


def at(*row):
    return own.point_of(row)


def settings():
    for (part, stock), tool in list(itertools.product(samples.SCENES.values(), samples.TOOLS.values()))[::2]:
        yield part, stock, tuple(sorted(own.cells_in(stock))), tool
    chance = samples.some(41)
    for _ in range(15):
        part, stock = samples.some_scene(chance, 2)
        cells = sorted(own.cells_in(stock))
        stands = chance.choice([cells, [cell for cell in cells if chance.random() < 0.5]])
        yield part, stock, tuple(stands), samples.some_tool(chance, 2)


def is_of_halves_along_axes(value):
    rows = [own.numbers(point) for point in value]
    steps = [sum(a != b for a, b in zip(start, end)) for start, end in zip(rows, rows[1:])]
    return all((2 * number).denominator == 1 for row in rows for number in row) and max(steps, default=0) <= 1


def some_path(chance, sides, many):
    """POINTS of halves about the ROOM, neighbours of which differ on one axis."""
    row = [Fraction(chance.randint(2 * low, 2 * high), 2) for low, high in sides]
    row[2] = Fraction(sides[2][1])
    points = [own.point_of(row)]
    for _ in range(many):
        axis = chance.choice((0, 1, 2, 2))
        row[axis] = Fraction(chance.randint(2 * sides[axis][0], 2 * sides[axis][1]), 2)
        points.append(own.point_of(row))
    return tuple(points)


class Told(unittest.TestCase):
    def test_it_can_be_done_and_leaves_what_behind_tells(self):
        for part, stock, stands, tool in settings():
            scene, lot = Scene(part, stock), Lot(stands)
            told = path(scene, lot, tool)
            self.assertIs(type(told), tuple)
            self.assertTrue(is_of_halves_along_axes(told))
            self.assertTrue(is_outside(part, stock, tool, told[0]) and is_outside(part, stock, tool, told[-1]))
            machine = OwnMachine(part, stands, tool)
            self.assertIsNone(machine.walk(told), (part, stock, tool))
            left = own.behind(part, stock, set(stands), tool)
            self.assertTrue(is_path_for(part, stock, stands, tool, told, left))
            self.assertIs(shows_path(scene, lot, tool, told), True)
            self.assertEqual(walked(scene, lot, tool, told), ("done", Fraction(machine.many, 8).as_integer_ratio()))

    def test_where_nothing_can_be_taken(self):
        scene = Scene(*samples.CHEST)
        told = path(scene, scene.stands, BARE)
        self.assertIs(shows_path(scene, scene.stands, BARE, told), True)
        self.assertEqual(walked(scene, scene.stands, BARE, told), ("done", (0, 1)))
        self.assertEqual(walked(scene, Lot(()), BARE, path(scene, Lot(()), BARE)), ("done", (0, 1)))

    def test_the_volume_is_what_is_taken(self):
        for part, stock in samples.SCENES.values():
            scene = Scene(part, stock)
            for tool in (NARROW, WIDE, SIDE):
                cubes = scene.stands.cubes - behind(scene, scene.stands, tool).cubes
                self.assertEqual(walked(scene, scene.stands, tool, path(scene, scene.stands, tool)), ("done", (cubes, 1)))


class Walked(unittest.TestCase):
    def check(self, part, stock, stands, tool, value):
        told = walked(Scene(part, stock), Lot(tuple(stands)), tool, value)
        self.assertEqual(told, OwnMachine(part, stands, tool).told(value), (part, stock, tool, value))
        self.assertIs(type(told), tuple)
        return told

    def test_against_an_own_machine(self):
        chance = samples.some(42)
        words = []
        for part, stock, stands, tool in settings():
            sides = own.axes(own.room(part, stock, tool))
            for _ in range(12):
                words.append(self.check(part, stock, stands, tool, some_path(chance, sides, chance.randint(0, 6)))[0])
        self.assertGreater(words.count("done"), 50)
        self.assertGreater(words.count("stops"), 50)

    def test_from_places_anywhere(self):
        chance = samples.some(43)
        for part, stock, stands, tool in list(settings())[::2]:
            sides = own.axes(own.room(part, stock, tool))
            for _ in range(6):
                self.check(part, stock, stands, tool, some_path(chance, sides, 3)[1:])

    def test_short_moves_down_and_aside(self):
        cells = sorted(own.cells_in(((0, 2, 0, 1, 0, 2),)))
        for tool in (NARROW, UNDER, SIDE, samples.LOW, samples.BENT):
            low = own.lowest_outside((), ((0, 2, 0, 1, 0, 2),), tool)
            for z, x in itertools.product((0, HALF, 1, Fraction(3, 2), 2, 3), (-1, -HALF, HALF, 1)):
                value = (at(0, 0, low), at(0, 0, low - z), at(x, 0, low - z), at(x, 0, low))
                self.check((), ((0, 2, 0, 1, 0, 2),), cells, tool, value)

    def test_the_holder_follows_where_the_cutter_went_within_the_move(self):
        scene, deep = ((), ((0, 1, 0, 1, 0, 4),)), (UNIT, ((0, 1, 0, 1, 1, 4),))
        stands = sorted(own.cells_in(scene[1]))
        self.assertEqual(self.check(*scene, stands, deep, (at(0, 0, 4), at(0, 0, 0))), ("done", (4, 1)))
        self.assertEqual(self.check(*scene, stands, deep, (at(0, 0, 4), at(0, 0, -9))), ("done", (4, 1)))
        self.assertEqual(self.check(*scene, stands, deep, (at(0, 0, 4), at(HALF, 0, 4), at(HALF, 0, 0))), ("done", (2, 1)))
        # From aside the holder is as far ahead as the cutter, but higher than it.
        self.assertEqual(self.check(*scene, stands, deep, (at(-1, 0, 0), at(1, 0, 0))), ("stops", 1))
        self.assertEqual(self.check(*scene, stands, deep, (at(-1, 0, 3), at(1, 0, 3))), ("done", (1, 1)))
        # A holder as wide as its cutter, beside it: it follows on the one way, and leads on the other.
        beside = (UNIT, ((1, 2, 0, 1, 0, 1),))
        wall = ((), ((0, 4, 0, 1, 0, 1),))
        stands = sorted(own.cells_in(wall[1]))
        self.assertEqual(self.check(*wall, stands, beside, (at(5, 0, 0), at(-5, 0, 0))), ("done", (4, 1)))
        self.assertEqual(self.check(*wall, stands, beside, (at(-5, 0, 0), at(5, 0, 0))), ("stops", 1))
        # A holder around the cutter: ahead of it on all ways.
        around = (((0, 1, 0, 1, 0, 1),), ((-1, 0, 0, 1, 0, 1), (1, 2, 0, 1, 0, 1)))
        for ends in ((at(5, 0, 0), at(-5, 0, 0)), (at(-5, 0, 0), at(5, 0, 0))):
            self.assertEqual(self.check(*wall, stands, around, ends), ("stops", 1))
        self.assertEqual(self.check(*wall, stands, around, (at(-5, 0, 0), at(-2, 0, 0))), ("done", (0, 1)))

    def test_several_boxes_of_a_cutter(self):
        # The lower box is too narrow for the holder, the upper one beside it comes too late or just in time.
        stock = ((0, 3, 0, 3, 0, 3),)
        stands = sorted(own.cells_in(stock))
        holder = ((0, 2, 0, 1, 2, 3),)
        for second in ((1, 2, 0, 1, 0, 1), (1, 2, 0, 1, 1, 2), (1, 2, 0, 1, 3, 4), (1, 2, 0, 2, 0, 1), (2, 3, 0, 1, 2, 3)):
            tool = (((0, 1, 0, 1, 0, 1), second), holder)
            for x, y, z in itertools.product((-3, 0, 1), (0, HALF, 2), (0, 1, HALF)):
                self.check((), stock, stands, tool, (at(x, y, 4), at(x, y, z), at(x + 2, y, z)))
                self.check((), stock, stands, tool, (at(x, -3, z), at(x, y, z), at(x, y, 5)))

    def test_where_it_stops(self):
        part, stock = ((0, 1, 0, 1, 0, 1),), ((0, 2, 0, 1, 0, 2),)
        stands = sorted(own.cells_in(stock))
        told = [
            ((at(0, 0, 0),), ("stops", 0)), ((at(0, 0, 2), at(0, 0, 1)), ("done", (1, 1))), ((at(0, 0, 2), at(0, 0, HALF)), ("stops", 1)),
            ((at(0, 0, 2), at(0, 0, 1), at(1, 0, 1), at(1, 0, 0), at(HALF, 0, 0)), ("stops", 4)), ((at(0, 0, 2),) * 3, ("done", (0, 1))),
            ((at(1, 0, 2), at(1, 0, 0)), ("done", (2, 1))), ((at(5, 5, 5),), ("done", (0, 1))), ((at(0, 0, -3),), ("done", (0, 1))),
            ((at(-5, 0, 1), at(5, 0, 1)), ("done", (2, 1))), ((at(-5, 0, 0), at(5, 0, 0)), ("stops", 1)),
        ]
        for value, right in told:
            self.assertEqual(self.check(part, stock, stands, BARE, value), right, value)
        self.assertEqual(self.check(part, stock, stands, NARROW, (at(1, 0, 0),)), ("stops", 0))
        # From above all of the column is taken; from within the sheet at its top stands, and the holder meets it.
        self.assertEqual(self.check((), stock, stands, NARROW, (at(1, 0, 2), at(1, 0, 1), at(1, 0, 0))), ("done", (2, 1)))
        self.assertEqual(self.check((), stock, stands, NARROW, (at(1, 0, 1), at(1, 0, 1), at(1, 0, 0))), ("stops", 2))

    def test_sheets_and_rows_of_no_thickness_count(self):
        stock, tool = ((0, 1, 0, 1, 0, 2),), (UNIT, ((0, 1, 0, 1, 1, 2),))
        stands = sorted(own.cells_in(stock))
        down = (at(0, 0, 2), at(0, 0, 0))
        self.assertEqual(self.check((), stock, stands, tool, down + (at(HALF, 0, 0),)), ("stops", 2))
        self.assertEqual(self.check((), stock, stands, tool, down + (at(0, HALF, 0),)), ("stops", 2))
        self.assertEqual(self.check((), stock, ((1, 1, 2),), (UNIT, ((0, 1, 0, 1, 1, 2),)), (at(0, 0, 0),)), ("done", (0, 1)))
        self.assertEqual(self.check((), stock, ((1, 1, 3),), (UNIT, ((0, 1, 0, 1, 1, 2),)), (at(0, 0, 0),)), ("stops", 0))

    def test_far_places(self):
        scene = Scene((), ((0, 1, 0, 1, 0, 1),))
        far = 10 ** 8
        value = (at(-far, 0, 0), at(far, 0, 0), at(far, 0, HALF), at(-far, 0, HALF))
        self.assertEqual(walked(scene, scene.stands, BARE, value), ("done", (1, 1)))
        scene = Scene(((0, 1, 0, 1, 0, 1),), UNIT)
        self.assertEqual(walked(scene, scene.stands, BARE, value), ("stops", 1))
        self.assertEqual(walked(scene, scene.stands, BARE, value[2:]), ("stops", 1))
        self.assertEqual(walked(scene, scene.stands, BARE, (at(far, far, far),) * 2), ("done", (0, 1)))


class ShownPaths(unittest.TestCase):
    def near(self, told):
        """PATHS and others near to the told one."""
        chance = samples.some(44)
        values = [told[:at] + told[at + 1:] for at in chance.sample(range(len(told)), min(8, len(told)))]
        for at in chance.sample(range(len(told)), min(8, len(told))):
            row = own.numbers(told[at])
            for axis, by in ((0, HALF), (1, -1), (2, 2), (2, -HALF)):
                step = list(row)
                step[axis] += by
                point = own.point_of(step)
                values += [replaced(told, at, point), told[:at + 1] + (point, told[at]) + told[at + 1:]]
        values += [told[:at] for at in range(1, len(told), 1 + len(told) // 6)] + [told[at:] for at in range(1, len(told), 1 + len(told) // 6)]
        return values + [told[::-1], told + told[::-1], told[::-1] + told, told + told[-1:] * 2, told[:1], told[-1:]]

    def test_an_own_machine_says_the_same(self):
        shown = []
        for part, stock, stands, tool in list(settings())[::4]:
            scene, lot = Scene(part, stock), Lot(stands)
            left = own.behind(part, stock, set(stands), tool)
            for value in self.near(path(scene, lot, tool)):
                right = bool(value) and is_of_halves_along_axes(value) and is_path_for(part, stock, stands, tool, value, left)
                self.assertIs(shows_path(scene, lot, tool, value), right, (part, stock, tool, value))
                shown.append(right)
        self.assertGreater(shown.count(True), 50)
        self.assertGreater(shown.count(False), 50)

    def test_it_must_go_from_outside_to_outside(self):
        scene = Scene((), ((0, 1, 0, 1, 0, 1),))
        told = path(scene, scene.stands, BARE)
        ends = []
        for (x, y, z), way_in in ((own.numbers(told[0]), True), (own.numbers(told[-1]), False)):
            high, aside, low = at(x, y, 9), at(-9, y, z), at(-9, y, HALF)
            ends.append([(), (high,), (aside,), (low, aside) if way_in else (aside, low)])
        for before, then in itertools.product(*ends):
            value = before + told + then
            right = is_path_for((), scene.stock, scene.stands.cells, BARE, value, ())
            self.assertIs(right, before != ends[0][3] and then != ends[1][3])
            self.assertIs(shows_path(scene, scene.stands, BARE, value), right)

    def test_values_of_other_kinds(self):
        scene = Scene((), ((0, 1, 0, 1, 0, 1),))
        told = path(scene, scene.stands, BARE)
        values = strange() + [list(told), (told,), told + (None,), {0: told}, tuple(list(point) for point in told), scene, Lot(())]
        values += [replaced(told, number, bent) for number, bent in enumerate(bent_points()[:len(told)])]
        values += [told[:1] + told[2:3], (told[0], ((1, 3), (0, 1), (9, 1))), told + (((1, 3), told[-1][1], told[-1][2]),)]
        for value in values:
            self.assertIs(shows_path(scene, scene.stands, BARE, value), False)
        self.assertIs(shows_path(scene, scene.stands, BARE, told), True)
        self.assertIs(shows_path(scene, Lot(()), BARE, (at(0, 0, 1),)), True)
        self.assertIs(shows_path(scene, Lot(()), BARE, (at(0, 0, HALF),)), False)
        self.assertIs(shows_path(scene, Lot(()), BARE, (((0, 1), (0, 1), (True, 1)),)), False)
        self.assertIs(shows_path(scene, Lot(()), BARE, ()), False)

    def test_another_scene(self):
        scene, other = Scene((), ((0, 1, 0, 1, 0, 1),)), Scene((), ((0, 2, 0, 1, 0, 1),))
        told = path(scene, scene.stands, BARE)
        self.assertIs(shows_path(other, other.stands, BARE, told), False)
        self.assertIs(shows_path(other, scene.stands, BARE, told), True)
        self.assertIs(shows_path(other, lot_of_boxes(((1, 2, 0, 1, 0, 1),)), BARE, told), False)


def bent_paths():
    """Values that are no PATHS."""
    one, other = at(0, 0, 5), at(HALF, 0, 5)
    bent = strange() + [(), [one], one, {0: one}, "0 0 5", (one, list(other)), (one, None), ((one,),), [one, other]]
    bent += [(one, at(1, 1, 5)), (one, at(0, 1, 4)), (one, other, at(0, 0, 4)), (one, at(1, 1, 1)), (at(HALF, HALF, HALF), ZERO)]
    bent += [(at(Fraction(1, 3), 0, 5),), (one, at(0, 0, Fraction(1, 4))), (at(0, Fraction(5, 6), 5), one), (ZERO, at(0, Fraction(7, 10), 0))]
    return bent + [(point,) for point in bent_points()] + [(ZERO, point, ZERO) for point in bent_points()[::3]]


class Refused(unittest.TestCase):
    def rows(self, *more):
        return [("scene", Scene((), UNIT), NoScene, bent_scenes()), ("stands", Lot(()), NoLot, bent_lots()),
                ("tool", BARE, BadTool, bent_tools()), *more]

    def test_in_sequence(self):
        check_refusals(self, path, self.rows())
        for value in (None, (ZERO,), (at(0, 0, 5),), []):
            check_refusals(self, shows_path, self.rows(("value", value, None, [])))
        check_refusals(self, walked, self.rows(("path", (ZERO,), BadPath, bent_paths())))

    def test_one_point_alone_and_the_same_one_twice_are_let(self):
        scene = Scene((), UNIT)
        for value in ((ZERO,), (ZERO, ZERO), (ZERO, at(HALF, 0, 0), at(HALF, 0, 0), at(HALF, -HALF, 0))):
            self.assertEqual(walked(scene, Lot(()), BARE, value), ("done", (0, 1)))
        assert_refused(self, BadPath, (value := (ZERO, at(HALF, HALF, 0))), walked, scene, Lot(()), BARE, value)


if __name__ == "__main__":
    unittest.main()
