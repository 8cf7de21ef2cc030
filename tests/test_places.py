"""Places one by one, free places, and what is reached."""

import itertools
import unittest
from fractions import Fraction

from allitreaches.lots import Lot
from allitreaches.places import can_stand, free, meets, outside, reach, room, Scene
from tests import own, samples


def some_places(part, stock, tool, steps):
    """Places in the ROOM and a little beyond: whole numbers, halves, thirds."""
    rows = []
    for low, high in own.axes(own.room(part, stock, tool)):
        numbers = [Fraction(low - 1), Fraction(3 * low + 1, 3), Fraction(high + 2)]
        numbers += [Fraction(number, 2) for number in range(2 * low, 2 * high + 1)]
        numbers += [Fraction(number, 3) for number in range(3 * low, 3 * high, 4)]
        rows.append(sorted(set(numbers)))
    places = list(itertools.product(*rows))
    return places[::max(1, len(places) // steps)]


def some_settings():
    """Scenes, what stands there, and tools: parts of no BOX, of several, all that stands and less of it."""
    for (name, (part, stock)), (word, tool) in itertools.product(samples.SCENES.items(), samples.TOOLS.items()):
        chance = samples.some(name + word)
        cells = sorted(own.cells_in(stock))
        for stands in (cells, [], [cell for cell in cells if chance.random() < 0.3]):
            yield part, stock, tuple(stands), tool


def chance_settings(many, side):
    """Scenes and tools by chance."""
    chance = samples.some(many * side)
    for _ in range(many):
        part, stock = samples.some_scene(chance, side)
        cells = sorted(own.cells_in(stock))
        stands = chance.choice([cells, [cell for cell in cells if chance.random() < 0.5]])
        yield part, stock, tuple(stands), samples.some_tool(chance, 2)


class PlacesOneByOne(unittest.TestCase):
    def check(self, part, stock, stands, tool, steps):
        scene, lot = Scene(part, stock), Lot(stands)
        for row in some_places(part, stock, tool, steps):
            point = own.point_of(row)
            told = meets(scene, lot, tool, point)
            self.assertEqual(told, tuple(own.bars(part, stands, tool, row)), (part, stock, tool, row))
            self.assertIs(type(told), tuple)
            self.assertIs(can_stand(scene, lot, tool, point), told == ())
            self.assertEqual(list(told), sorted(told))

    def test_against_own_bounds(self):
        for part, stock, stands, tool in list(some_settings())[::2]:
            self.check(part, stock, stands, tool, 25)

    def test_by_chance(self):
        for part, stock, stands, tool in chance_settings(60, 4):
            self.check(part, stock, stands, tool, 60)

    def test_axis_by_axis(self):
        tool = (((-1, 2, 0, 1, 0, 1),), ((0, 1, -1, 1, 1, 3),))
        scene = Scene(((3, 5, 0, 1, 0, 1),), ((3, 5, 0, 1, 0, 1),))
        for number in range(-2, 40):
            x = Fraction(number, 6)
            told = meets(scene, Lot(()), tool, own.point_of((x, 0, 0)))
            # From 3 - 2 to 5 + 1, none of them counted in.
            self.assertEqual(told, (("cutter", 0, 0),) if 1 < x < 6 else (), x)
            told = meets(scene, Lot(()), tool, own.point_of((4, x - 3, Fraction(-3, 2))))
            self.assertEqual(told, (("holder", 0, 0),) if -1 < x - 3 < 2 else (), x)
            told = meets(scene, Lot(((8, 1, 1),)), tool, own.point_of((x, 0, -2)))
            self.assertEqual([row for row in told if row[0] == "stands"], [("stands", 0, (8, 1, 1))] if 3 < x < 4 else [], x)

    def test_far_away_all_is_free(self):
        scene = Scene(*samples.CHEST)
        for row in ((10 ** 8, 0, 0), (0, -10 ** 8, 0), (1, 1, 10 ** 8), (1, 1, -10 ** 8), (Fraction(10 ** 30, 7), 1, 1)):
            self.assertIs(can_stand(scene, scene.stands, samples.WIDE, own.point_of(row)), True)
            self.assertEqual(meets(scene, scene.stands, samples.WIDE, own.point_of(row)), ())

    def test_a_cutter_may_lie_in_what_stands(self):
        scene = Scene((), samples.BLOCK[1])
        for tool in (samples.BARE, samples.NARROW):
            low = own.point_of((Fraction(1, 2), Fraction(1, 2), 1))
            self.assertIs(can_stand(scene, scene.stands, tool, low), True)
            self.assertIs(can_stand(scene, scene.stands, tool, own.point_of((0, 0, 0))), tool == samples.BARE)


class Rooms(unittest.TestCase):
    def test_room_and_outside(self):
        for part, stock, stands, tool in list(some_settings())[::3]:
            scene = Scene(part, stock)
            told = room(scene, tool)
            self.assertEqual(told, own.room(part, stock, tool))
            self.assertIs(type(told), tuple)
            lowest = own.lowest_outside(part, stock, tool)
            cells = {cell for cell in own.cells_of_room(part, stock, tool) if own.sample_of(cell)[2] >= lowest}
            lot = outside(scene, tool)
            self.assertEqual(set(lot.cells), cells)
            self.assertEqual(len(lot.pieces()), 1)
            self.assertIs(lot.is_in(free(scene, scene.stands, tool)), True)

    def test_outside_is_where_all_boxes_lie_at_the_top(self):
        tool = (((0, 1, 0, 1, -2, -1),), ((0, 1, 0, 1, -3, -2),))
        scene = Scene(((0, 1, 0, 1, 0, 5),), ((0, 1, 0, 1, 0, 4),))
        self.assertEqual(min(cell[2] for cell in outside(scene, tool).cells), 2 * (5 + 3))

    def test_on_its_sides_nothing_is_met(self):
        for part, stock, stands, tool in list(some_settings())[::5]:
            scene, lot = Scene(part, stock), Lot(stands)
            sides = own.axes(room(scene, tool))
            for row in some_places(part, stock, tool, 300):
                if any(not low < number < high for (low, high), number in zip(sides, row)):
                    self.assertIs(can_stand(scene, lot, tool, own.point_of(row)), True)


class FreePlaces(unittest.TestCase):
    def check(self, part, stock, stands, tool):
        scene, lot = Scene(part, stock), Lot(stands)
        told = free(scene, lot, tool)
        self.assertEqual(set(told.cells), own.free(part, stock, stands, tool))
        self.assertIs(told.is_closed, True)
        come_to = reach(scene, lot, tool)
        self.assertEqual(set(come_to.cells), own.reach(part, stock, stands, tool))
        self.assertIs(outside(scene, tool).is_in(come_to), True)
        return told, come_to

    def test_cell_by_cell(self):
        for part, stock, stands, tool in list(some_settings())[::2]:
            told, come_to = self.check(part, stock, stands, tool)
            pieces = told.pieces()
            self.assertEqual([piece for piece in pieces if piece.has(own.point_of(own.sample_of(come_to.cells[-1])))], [come_to])

    def test_by_chance(self):
        for part, stock, stands, tool in chance_settings(40, 4):
            self.check(part, stock, stands, tool)

    def test_place_by_place(self):
        for name, word in (("block", "wide"), ("hole", "narrow"), ("column", "bent"), ("apart", "under")):
            (part, stock), tool = samples.SCENES[name], samples.TOOLS[word]
            cells = sorted(own.cells_in(stock))
            told = free(Scene(part, stock), Lot(tuple(cells)), tool)
            for cell in own.cells_of_room(part, stock, tool):
                self.assertIs(told.has(own.point_of(own.sample_of(cell))), own.stands_at(part, cells, tool, own.sample_of(cell)))

    def test_a_hollow_is_free_and_not_reached(self):
        scene = Scene(*samples.CHEST)
        inner = own.point_of((1, 1, 1))
        told, come_to = free(scene, Lot(()), samples.BARE), reach(scene, Lot(()), samples.BARE)
        self.assertEqual([told.has(inner), come_to.has(inner), len(told.pieces())], [True, False, 2])

    def test_stands_that_are_not_closed(self):
        scene, tool = Scene((), ((0, 1, 0, 1, 0, 1),)), (((0, 1, 0, 1, 0, 1),), ((0, 1, 0, 1, 1, 2),))
        for cells in (((1, 1, 1),), ((1, 1, 0), (0, 1, 1)), ((0, 0, 0),)):
            self.check((), ((0, 1, 0, 1, 0, 1),), cells, tool)
        self.assertIs(free(scene, Lot(((1, 1, 1),)), tool).is_closed, True)

    def test_with_less_standing_no_less_is_reached(self):
        for name, word in (("block", "high"), ("table", "side"), ("hole", "narrow"), ("apart", "bent")):
            scene, tool = Scene(*samples.SCENES[name]), samples.TOOLS[word]
            rows = [scene.stands, Lot(scene.stands.cells[::2]), Lot(scene.stands.cells[::6]), Lot(())]
            lots = [reach(scene, row, tool) for row in rows]
            self.assertEqual([one.is_in(other) for one, other in zip(lots, lots[1:])], [True] * 3)


if __name__ == "__main__":
    unittest.main()
