"""Whole turns in a row, what no turns take, and the fewest of them."""

import itertools
import unittest

from allitreaches.errors import BadRow, BadTools, NoScene
from allitreaches.lots import Lot, lot_of_boxes
from allitreaches.places import Scene
from allitreaches.rounds import fewest, lacks, least, rounds, shows_fewest, stands_behind
from allitreaches.taking import behind
from tests import samples
from tests.own_turns import own_turns
from tests.samples import BARE, BROAD, IDLE, NARROW, POCKET, STEPPED, UNIT, WIDE
from tests.values import strange
from tests.wrong import bent_rows, bent_scenes, bent_toolss, check_refusals

SETTINGS = samples.TURNS


def cells_of(lot):
    return frozenset(lot.cells)


class TurnsInARow(unittest.TestCase):
    def test_against_own_turns(self):
        for (part, stock), tools in SETTINGS:
            scene, reckoned = Scene(part, stock), own_turns(part, stock, tools)
            for many in range(4):
                for row in itertools.product(range(len(tools)), repeat=many):
                    self.assertEqual(cells_of(stands_behind(scene, tools, row)), reckoned.behind(row), row)

    def test_long_rows(self):
        (part, stock), tools = SETTINGS[0]
        scene, reckoned = Scene(part, stock), own_turns(part, stock, tools)
        for row in ((0,) * 20, (1,) * 20, (0, 1) * 12, (1, 0, 0, 1) * 6):
            self.assertEqual(cells_of(stands_behind(scene, tools, row)), reckoned.behind(row))

    def test_the_empty_row(self):
        for (part, stock), tools in SETTINGS:
            scene = Scene(part, stock)
            self.assertEqual(stands_behind(scene, tools, ()), scene.stands)

    def test_by_behind(self):
        for (part, stock), tools in SETTINGS:
            scene = Scene(part, stock)
            left = behind(scene, behind(scene, scene.stands, tools[0]), tools[-1])
            self.assertEqual(stands_behind(scene, tools, (0, len(tools) - 1)), left)


class Rounds(unittest.TestCase):
    def test_against_own_rounds(self):
        for (part, stock), tools in SETTINGS:
            scene, (turns, goal) = Scene(part, stock), own_turns(part, stock, tools).rounds()
            told = rounds(scene, tools)
            self.assertEqual(told, turns)
            self.assertEqual({type(row) for row in (told, *told)}, {tuple})
            self.assertEqual(cells_of(least(scene, tools)), goal)

    def test_as_many_cells_as_each_turn_takes(self):
        for (part, stock), tools in SETTINGS:
            scene = Scene(part, stock)
            row = ()
            for number, many in rounds(scene, tools):
                ahead = stands_behind(scene, tools, row)
                row += (number,)
                self.assertEqual(len(ahead) - len(stands_behind(scene, tools, row)), many)
                self.assertGreater(many, 0)
            self.assertEqual(stands_behind(scene, tools, row), least(scene, tools))

    def test_no_row_takes_a_spot_of_least(self):
        for (part, stock), tools in SETTINGS:
            scene, goal = Scene(part, stock), least(Scene(part, stock), tools)
            for row in itertools.product(range(len(tools)), repeat=3):
                self.assertIs(goal.is_in(stands_behind(scene, tools, row)), True)
                # Led on far enough, each of them comes to it.
                self.assertEqual(stands_behind(scene, tools, row + tuple(range(len(tools))) * 3), goal)
            for tool in tools:
                self.assertEqual(behind(scene, goal, tool), goal)

    def test_the_same_tool_twice(self):
        for part, stock in samples.SCENES.values():
            scene = Scene(part, stock)
            once = rounds(scene, (NARROW,))
            self.assertEqual(rounds(scene, (NARROW, NARROW)), once)
            self.assertEqual(least(scene, (NARROW, NARROW)), least(scene, (NARROW,)))
            self.assertLessEqual(len(once), 1)

    def test_a_tool_that_can_do_nothing(self):
        scene = Scene(*samples.CHEST)
        self.assertEqual([rounds(scene, (BARE, NARROW)), fewest(scene, (BARE, NARROW))], [(), ()])
        self.assertEqual(least(scene, (BARE, NARROW)), scene.stands)
        scene = Scene(*POCKET)
        self.assertEqual(stands_behind(scene, (IDLE,), (0,)), scene.stands)
        self.assertEqual(fewest(scene, (IDLE, STEPPED, BROAD)), (2, 1))


class Fewest(unittest.TestCase):
    def test_against_all_rows(self):
        for (part, stock), tools in SETTINGS:
            scene, rows = Scene(part, stock), own_turns(part, stock, tools).fewest()
            told = fewest(scene, tools)
            self.assertEqual(told, rows[0], tools)
            self.assertIs(type(told), tuple)
            many = len(told)
            for length in range(many + 2):
                for row in itertools.product(range(len(tools)), repeat=length):
                    self.assertIs(shows_fewest(scene, tools, row), row in rows)

    def test_by_chance(self):
        chance = samples.some(31)
        lengths = []
        for _ in range(25):
            part, stock = samples.some_scene(chance, 3)
            tools = tuple(samples.some_tool(chance, 1) for _ in range(chance.randint(2, 3)))
            scene, rows = Scene(part, stock), own_turns(part, stock, tools).fewest()
            self.assertEqual(fewest(scene, tools), rows[0])
            for row in rows:
                self.assertIs(shows_fewest(scene, tools, row), True)
            lengths.append(len(rows[0]))
        self.assertGreater(len(set(lengths)), 1)

    def test_of_several_the_first(self):
        scene = Scene(*samples.BLOCK)
        self.assertEqual([fewest(scene, (BARE,) * many) for many in (1, 2, 4)], [(0,)] * 3)
        self.assertEqual([shows_fewest(scene, (BARE,) * 4, (number,)) for number in range(5)], [True] * 4 + [False])
        self.assertEqual(fewest(scene, (IDLE, BARE, NARROW, BARE)), (1,))

    def test_nothing_to_take(self):
        scene = Scene(UNIT, UNIT)
        self.assertEqual([fewest(scene, (BARE,)), shows_fewest(scene, (BARE,), ()), shows_fewest(scene, (BARE,), (0,))], [(), True, False])

    def test_values_of_other_kinds(self):
        scene, tools = Scene(*POCKET), (BROAD, STEPPED)
        values = [value for value in strange() if value != (0, 1)] + bent_rows(2) + [[0, 1], (False, True), (0, True), (False, 1), "01"]
        for value in values + [scene, scene.stands, tools, ((0, 1),), {0: 1}, (0, 2), (0, 1, 0), (0,), (1,), (0, 0)]:
            self.assertIs(shows_fewest(scene, tools, value), False, value)
        self.assertIs(shows_fewest(scene, tools, (0, 1)), True)
        for value in [value for value in strange() if value != ()]:
            self.assertIs(shows_fewest(Scene(UNIT, UNIT), tools, value), False, value)

    def test_four_tools(self):
        scene = Scene(POCKET[0], POCKET[1])
        tools = (IDLE, WIDE, STEPPED, BROAD)
        self.assertEqual(fewest(scene, tools), own_turns(*POCKET, tools).fewest()[0])


class Lacks(unittest.TestCase):
    def test_what_stands_and_is_not_in_least(self):
        for (part, stock), tools in SETTINGS:
            scene = Scene(part, stock)
            goal = least(scene, tools)
            for many in range(3):
                for row in itertools.product(range(len(tools)), repeat=many):
                    told = lacks(scene, tools, row)
                    self.assertEqual(told, stands_behind(scene, tools, row).less(goal))
            self.assertEqual(lacks(scene, tools, fewest(scene, tools)), Lot(()))


class Refused(unittest.TestCase):
    def rows(self, *more):
        return [("scene", Scene((), UNIT), NoScene, bent_scenes()), ("tools", (BARE, NARROW), BadTools, bent_toolss()), *more]

    def test_in_sequence(self):
        for look in (rounds, least, fewest):
            check_refusals(self, look, self.rows())
        for look in (stands_behind, lacks):
            check_refusals(self, look, self.rows(("row", (0, 1), BadRow, bent_rows(2))))
        for value in (None, (), (0, 1), (2,), [0]):
            check_refusals(self, shows_fewest, self.rows(("value", value, None, [])))

    def test_numbers_of_tools_that_there_are(self):
        scene = Scene((), UNIT)
        for many in range(1, 5):
            tools = (BARE,) * many
            for look in (stands_behind, lacks):
                self.assertEqual(look(scene, tools, tuple(range(many))), Lot(()))
                for row in ((many,), (0, many), (-1,), (many - 1, many)):
                    self.assertRaises(BadRow, look, scene, tools, row)


class Across(unittest.TestCase):
    def test_with_a_tool_more_or_without_holders_nothing_more_stands(self):
        for (part, stock), tools in SETTINGS:
            scene = Scene(part, stock)
            left = least(scene, tools)
            self.assertIs(least(scene, tools + (samples.LOW,)).is_in(left), True)
            self.assertIs(least(scene, tuple((cutter, ()) for cutter, _ in tools)).is_in(left), True)
            self.assertIs(left.is_in(least(scene, tools[:1])), True)

    def test_with_a_box_more_nothing_less_stands(self):
        chance = samples.some(32)
        for (part, stock), tools in SETTINGS:
            left = least(Scene(part, stock), tools)
            box = samples.some_box(chance, 0, 4, 2)
            if len(part) < 6:
                self.assertIs(left.is_in(least(Scene(part + (box,), stock), tools)), True)
            if len(stock) < 3:
                self.assertIs(left.is_in(least(Scene(part, stock + (box,)), tools)), True)
            self.assertIs(lot_of_boxes(part).both(lot_of_boxes(stock)).is_in(left), True)


if __name__ == "__main__":
    unittest.main()
