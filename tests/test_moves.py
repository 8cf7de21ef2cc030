"""Straight moves in any direction."""

import itertools
import unittest
from fractions import Fraction

from allitreaches.errors import BadPoint, BadTool, NoFence, NoLot, NoScene, NotFree
from allitreaches.lots import Lot, lot_of_boxes
from allitreaches.moves import clear, first_met, shows_first_met
from allitreaches.places import can_stand, Scene
from allitreaches.ways import fence, shows_way, way
from tests import own, samples
from tests.samples import BARE, NARROW, UNIT
from tests.values import assert_refused, strange
from tests.wrong import bent_lots, bent_points, bent_scenes, bent_tools, check_refusals

HALF = Fraction(1, 2)
POST = Scene(((0, 1, 0, 1, 0, 3),), ((0, 4, 0, 1, 0, 2),))


def at(*row):
    return own.point_of(row)


def own_first_met(part, stands, tool, one, other):
    """The last moment up to which the tool can stand, and the reasons right behind it; None if there is none."""
    moments = own.bounds_crossed(one, other)
    for before, moment in zip(moments, moments[1:]):
        reasons = own.bars(part, stands, tool, own.at_moment(one, other, moment))
        if reasons:
            return before, reasons
    return None


def some_moves(seed, many):
    """Scenes, tools, and straight moves in all directions, from where the tool can stand, most of them past something."""
    chance = samples.some(seed)
    rows = list(itertools.product(samples.SCENES.values(), samples.TOOLS.values()))
    while many:
        (part, stock), tool = chance.choice(rows)
        cells = sorted(own.cells_in(stock))
        stands = chance.choice([cells, [], [cell for cell in cells if chance.random() < 0.2]])
        sides = own.axes(own.room(part, stock, tool))
        bottom = chance.choice((1, 2, 3, 6))
        one, other = [tuple(Fraction(chance.randint(bottom * low, bottom * high), bottom) for low, high in sides) for _ in range(2)]
        if chance.random() < 0.3:
            other = tuple(b if chance.random() < 0.5 else a for a, b in zip(one, other))
        if own.stands_at(part, stands, tool, one):
            many -= 1
            yield part, stock, tuple(stands), tool, one, other


class FirstMet(unittest.TestCase):
    def check(self, scene, stands, tool, one, other):
        one, other = tuple(map(Fraction, one)), tuple(map(Fraction, other))
        ends = own.point_of(one), own.point_of(other)
        told = first_met(scene, stands, tool, *ends)
        reckoned = own_first_met(scene.part, stands.cells, tool, one, other)
        self.assertIs(clear(scene, stands, tool, *ends), reckoned is None)
        self.assertIs(clear(scene, stands, tool, *ends), own.is_clear(scene.part, stands.cells, tool, one, other))
        self.assertIs(shows_first_met(scene, stands, tool, *ends, told), True)
        if reckoned is None:
            self.assertIsNone(told)
            self.assertIs(clear(scene, stands, tool, *ends[::-1]), True)
            return None
        moment, reasons = reckoned
        self.assertIs(type(told), tuple)
        self.assertEqual(told[0], moment.as_integer_ratio())
        self.assertIn(told[1], reasons)
        self.assertIs(shows_first_met(scene, stands, tool, *ends, None), False)
        return moment, reasons

    def test_by_chance(self):
        met = 0
        for part, stock, stands, tool, one, other in some_moves(11, 400):
            met += self.check(Scene(part, stock), Lot(stands), tool, one, other) is not None
        self.assertGreater(met, 100)
        self.assertLess(met, 390)

    def test_each_reason_right_behind_the_moment_and_no_other(self):
        for part, stock, stands, tool, one, other in some_moves(12, 60):
            scene, lot, ends = Scene(part, stock), Lot(stands), (own.point_of(one), own.point_of(other))
            reckoned = own_first_met(part, stands, tool, one, other)
            if reckoned is None:
                for value in (((0, 1), ("cutter", 0, 0)), ((1, 1), ("holder", 0, 0)), ((1, 2), ("stands", 0, (1, 1, 1)))):
                    self.assertIs(shows_first_met(scene, lot, tool, *ends, value), False)
                continue
            moment, right = reckoned
            reasons = [(word, b, a) for word in ("cutter", "holder") for b in range(3) for a in range(len(part) + 1)]
            reasons += [("stands", b, cell) for b in range(3) for cell in sorted(stands)[::7] + [(99, 1, 1)]] + right
            for reason in reasons:
                value = (moment.as_integer_ratio(), reason)
                self.assertIs(shows_first_met(scene, lot, tool, *ends, value), reason in right, value)
            for step in (Fraction(1, 1000), Fraction(-1, 7), Fraction(1), -moment, 1 - moment):
                if step:
                    value = ((moment + step).as_integer_ratio(), right[0])
                    self.assertIs(shows_first_met(scene, lot, tool, *ends, value), False)

    def test_the_tool_can_stand_up_to_this_moment(self):
        for part, stock, stands, tool, one, other in some_moves(13, 80):
            scene, lot = Scene(part, stock), Lot(stands)
            told = first_met(scene, lot, tool, own.point_of(one), own.point_of(other))
            moment = Fraction(*told[0]) if told else Fraction(1)
            for part_of in range(5):
                row = own.at_moment(one, other, moment * part_of / 4)
                self.assertIs(can_stand(scene, lot, tool, own.point_of(row)), True)
            if told:
                row = own.at_moment(one, other, moment + Fraction(1, 10 ** 9))
                self.assertIs(can_stand(scene, lot, tool, own.point_of(row)), False)

    def test_of_no_length(self):
        for part, stock, stands, tool, one, _ in some_moves(14, 30):
            self.assertIsNone(self.check(Scene(part, stock), Lot(stands), tool, one, one))

    def test_along_sides_and_edges_and_through_corners(self):
        told = [
            ((-1, -2, 0), (-1, 3, 0), None), ((1, -2, 0), (1, 3, 2), None), ((-1, -1, -2), (-1, -1, 4), None),
            ((-1, -2, 3), (1, 2, 3), None), ((-1, -1, 3), (1, 1, 3), None), ((-2, 0, 0), (0, -2, 0), None),
            ((-2, -1, 0), (-1, 0, 0), None), ((-1, -1, 0), (0, 0, 0), 0), ((-2, -2, 0), (0, 0, 0), HALF),
            ((-2, 0, 1), (2, 0, 1), Fraction(1, 4)), ((0, 0, 3), (0, 0, -1), 0), ((0, 0, 5), (0, 0, -3), Fraction(1, 4)),
            ((-2, 0, 4), (1, 0, 1), Fraction(1, 3)), ((-2, 0, 5), (1, 0, 2), Fraction(2, 3)),
            ((Fraction(-5, 3), HALF, 0), (Fraction(4, 3), HALF, 0), Fraction(2, 9)), ((-1, -1, 3), (0, 0, 2), 0),
            ((-1, -1, -1), (1, 1, 1), 0), ((-1, -1, -1), (-3, 5, 7), None), ((-2, 0, -1), (2, 0, -1), None),
        ]
        scene = Scene(((0, 1, 0, 1, 0, 3),), UNIT)
        for one, other, moment in told:
            found = self.check(scene, Lot(()), BARE, one, other)
            self.assertEqual(None if found is None else found[0], moment, (one, other))

    def test_into_a_slot_as_wide_as_the_tool_and_one_less_wide(self):
        for width, wide in ((1, False), (2, True), (3, True)):
            scene = Scene(((0, 2, 0, 4, 0, 3), (2 + width, 8, 0, 4, 0, 3)), ((0, 8, 0, 4, 0, 3),))
            tool = (((0, 2, 0, 1, 0, 1),), ())
            found = self.check(scene, Lot(()), tool, (2, 1, 5), (2, 1, 0))
            self.assertEqual(found is None, wide)
            self.assertIs(self.check(scene, Lot(()), tool, (2, -2, 1), (2, 6, 0)) is None, wide)
            if wide:
                slanting = self.check(scene, Lot(()), tool, (2, 1, 5), (1, 1, 0))
                self.assertEqual(slanting[0] >= Fraction(2, 5), True)
        # As wide as the slot, it can't lean to either side.
        scene = Scene(((0, 2, 0, 4, 0, 3), (4, 8, 0, 4, 0, 3)), ((0, 8, 0, 4, 0, 3),))
        for x in (Fraction(7, 4), Fraction(9, 4)):
            self.assertEqual(self.check(scene, Lot(()), (((0, 2, 0, 1, 0, 1),), ()), (2, 1, 5), (x, 1, 0))[0], Fraction(2, 5))

    def test_what_stands_is_in_the_holders_way_alone(self):
        scene = Scene((), ((0, 2, 0, 1, 0, 2),))
        self.assertIsNone(self.check(scene, scene.stands, BARE, (0, 0, 4), (0, 0, -3)))
        moment, reasons = self.check(scene, scene.stands, NARROW, (0, 0, 4), (0, 0, -1))
        self.assertEqual([moment, {reason[0] for reason in reasons}], [Fraction(3, 5), {"stands"}])
        sheet = Lot(((1, 1, 3),))
        self.assertEqual(self.check(scene, sheet, NARROW, (0, 0, 4), (0, 0, 0))[0], Fraction(3, 4))
        self.assertIsNone(self.check(scene, sheet, NARROW, (0, 0, 4), (0, 0, 1)))
        self.assertIsNone(self.check(scene, Lot(((0, 0, 0),)), NARROW, (0, 0, 4), (0, 0, -1)))
        # A single spot is met on a slanting move, though not at its end.
        self.assertEqual(self.check(scene, Lot(((0, 0, 0),)), NARROW, (-1, -1, 4), (0, 0, -2))[0], Fraction(5, 6))

    def test_far_moves(self):
        great = 10 ** 30
        one, other = at(Fraction(1, 3) - great, HALF, HALF), at(great, HALF, HALF)
        moment, reason = first_met(POST, POST.stands, BARE, one, other)
        self.assertEqual(Fraction(*moment), (great - Fraction(1, 3) - 1) / (2 * great - Fraction(1, 3)))
        self.assertEqual(reason, ("cutter", 0, 0))
        self.assertIs(clear(POST, POST.stands, BARE, one, at(great, HALF, great)), True)


class ValuesNearToThese(unittest.TestCase):
    def test_values_of_other_kinds(self):
        ends = (at(2, 0, 3), at(0, 0, 1))
        tool, reason = (UNIT, ((0, 1, 0, 1, 1, 4),)), ("cutter", 0, 0)
        self.assertEqual(first_met(POST, POST.stands, tool, *ends)[0], (1, 2))
        values = strange() + [[(1, 2), reason], ((1, 2), list(reason)), ([1, 2], reason), ((1, 2),), ((1, 2), reason, 0), (reason, (1, 2)),
                              ((2, 4), reason), ((True, 2), reason), (HALF, reason), (1, reason), ((1, 2), None), ((1, 2), ("cutter", 0)),
                              ((1, 2), ("cutter", False, 0)), ((1, 2), ("cutter", 0, False)), ((1, 2), ("cutter", 0, 0, 0)),
                              ((1, 2), ("Cutter", 0, 0)), ((1, 2), (None, 0, 0)), ((1, 2), ("cutter", 0, (0, 0, 0))), ((1, 2), (reason,)),
                              ((1, 2), "cutter"), {(1, 2): reason}, ((-1, -2), reason), ((1, 2), ("stands", 0, 0)), Lot(()), POST]
        for value in values:
            self.assertIs(shows_first_met(POST, POST.stands, tool, *ends, value), False, value)
        for value in (((1, 2), reason), ((1, 2), ("holder", 0, 0))):
            self.assertIs(shows_first_met(POST, POST.stands, tool, *ends, value), True)
        clear_ends = (at(2, 0, 3), at(2, 0, 1))
        for value in strange() + [((1, 1), reason), ((0, 1), reason), ((1, 2), reason)]:
            self.assertIs(shows_first_met(POST, POST.stands, tool, *clear_ends, value), value is None)

    def test_cells_that_stand(self):
        scene = Scene((), ((0, 1, 0, 1, 0, 1),))
        ends, tool = (at(0, 0, 2), at(0, 0, -1)), NARROW
        self.assertEqual(first_met(scene, scene.stands, tool, *ends)[0], (2, 3))
        for cell, shown in (((1, 1, 2), True), ((1, 1, 1), True), ((1, 1, 0), False), ((0, 1, 1), False), ((1, 1, True), False)):
            self.assertIs(shows_first_met(scene, scene.stands, tool, *ends, ((2, 3), ("stands", 0, cell))), shown, cell)
        self.assertIs(shows_first_met(scene, scene.stands, tool, *ends, ((2, 3), ("stands", 0, [1, 1, 1]))), False)
        self.assertIs(shows_first_met(scene, scene.stands, tool, *ends, ((2, 3), ("stands", 1, (1, 1, 1)))), False)


class Refused(unittest.TestCase):
    def rows(self):
        return [("scene", POST, NoScene, bent_scenes()), ("stands", Lot(()), NoLot, bent_lots()),
                ("tool", BARE, BadTool, bent_tools()[::2] + [None]), ("one", at(5, 0, 0), BadPoint, bent_points()),
                ("other", at(5, 0, 3), BadPoint, bent_points())]

    def test_moves(self):
        check_refusals(self, first_met, self.rows())
        check_refusals(self, clear, self.rows())
        for value in (None, ((1, 2), ("cutter", 0, 0)), 0):
            check_refusals(self, shows_first_met, self.rows() + [("value", value, None, [])])

    def test_not_free_for_one_alone(self):
        barred, free = at(0, 0, 0), at(5, 0, 0)
        for look, more in ((first_met, ()), (clear, ()), (shows_first_met, (None,))):
            assert_refused(self, NotFree, barred, look, POST, POST.stands, BARE, barred, free, *more)
            assert_refused(self, NotFree, barred, look, POST, POST.stands, BARE, barred, barred, *more)
            self.assertIsNot(look(POST, POST.stands, BARE, free, barred, *more), True)
            assert_refused(self, BadPoint, None, look, POST, POST.stands, BARE, barred, None, *more)
            assert_refused(self, NotFree, barred, look, POST, POST.stands, BARE, other=free, one=barred, **({"value": 0} if more else {}))

    def test_ways_and_fences_beside_them(self):
        # For way and fence both places must be free; for moves only the first one.
        barred, free = at(0, 0, 0), at(5, 0, 0)
        for look in (way, fence):
            assert_refused(self, NotFree, barred, look, POST, POST.stands, BARE, free, barred)
        with self.assertRaises(NoFence) as caught:
            fence(POST, POST.stands, BARE, free, at(6, 0, 0))
        self.assertEqual(caught.exception.value, way(POST, POST.stands, BARE, free, at(6, 0, 0)))


class Across(unittest.TestCase):
    def test_where_a_straight_move_is_clear_there_is_a_way(self):
        found = 0
        for part, stock, stands, tool, one, other in some_moves(15, 150):
            scene, lot, ends = Scene(part, stock), Lot(stands), (own.point_of(one), own.point_of(other))
            if clear(scene, lot, tool, *ends):
                found += 1
                self.assertIsNotNone(way(scene, lot, tool, *ends))
        self.assertGreater(found, 30)

    def test_the_stretches_of_a_way_are_clear(self):
        for part, stock, stands, tool, one, other in some_moves(16, 100):
            scene, lot = Scene(part, stock), Lot(stands)
            if own.stands_at(part, stands, tool, other):
                told = way(scene, lot, tool, own.point_of(one), own.point_of(other))
                for start, end in zip(told or (), (told or ())[1:]):
                    self.assertIs(clear(scene, lot, tool, start, end), True)
                    self.assertIs(clear(scene, lot, tool, end, start), True)

    def test_a_clear_move_along_an_axis_is_a_way(self):
        scene = Scene(((0, 1, 0, 1, 0, 3),), ((0, 1, 0, 1, 0, 3),))
        for row in itertools.product((-1, 0, HALF, 1), repeat=3):
            one, other = at(-2, row[1], row[2]), at(2, row[1], row[2])
            value = clear(scene, scene.stands, BARE, one, other)
            self.assertIs(shows_way(scene, scene.stands, BARE, one, other, (one, other)), value)
        self.assertIs(shows_way(scene, lot_of_boxes(()), BARE, at(-2, 0, 0), at(0, -2, 0), (at(-2, 0, 0), at(0, -2, 0))), False)


if __name__ == "__main__":
    unittest.main()
