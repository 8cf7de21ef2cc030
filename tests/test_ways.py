"""Ways and fences."""

import itertools
import unittest
from fractions import Fraction

from allitreaches.errors import BadPoint, BadTool, NoFence, NoLot, NoScene, NotFree
from allitreaches.lots import Lot, lot_of_boxes, within_boxes
from allitreaches.places import Scene
from allitreaches.ways import fence, shows_fence, shows_way, way
from tests import own, samples
from tests.samples import BARE, NARROW, UNIT
from tests.values import assert_refused, nested, replaced, strange
from tests.wrong import bent_lots, bent_points, bent_scenes, bent_tools, check_refusals

HALF = Fraction(1, 2)
THIRD = Fraction(1, 3)
CHEST = Scene(*samples.CHEST)
OPEN_CHEST = Scene(samples.CHEST[0][:5], samples.CHEST[1])
INNER, OUTER = own.point_of((1, 1, 1)), own.point_of((-2, 1, HALF))
# A hollow with a niche beside it, and two chambers that are open below.
NICHE = Scene(((0, 5, 0, 1, 0, 3), (0, 5, 2, 3, 0, 3), (0, 5, 0, 3, 0, 1), (0, 5, 0, 3, 2, 3), (0, 1, 0, 3, 0, 3),
               (3, 5, 1, 2, 1, 2)), ((0, 5, 0, 3, 0, 3),))
CHAMBERS = Scene(((0, 5, 0, 1, 0, 3), (0, 5, 2, 3, 0, 3), (0, 1, 0, 3, 0, 3), (4, 5, 0, 3, 0, 3), (2, 3, 0, 3, 0, 3),
                  (0, 5, 0, 3, 2, 3)), ((0, 5, 0, 3, 0, 3),))


def is_way(part, stands, tool, one, other, value):
    """An own look at a way, stretch by stretch."""
    if value[0] != one or value[-1] != other:
        return False
    rows = [own.numbers(point) for point in value]
    for start, end in zip(rows, rows[1:]):
        if sum(a != b for a, b in zip(start, end)) > 1 or not own.is_clear(part, stands, tool, start, end):
            return False
    return own.stands_at(part, stands, tool, rows[0])


def reason_holds(part, stands, tool, cell, reason):
    return reason in own.bars(part, stands, tool, own.sample_of(cell))


def is_fence(part, stands, tool, one, other, value):
    """An own look at a fence, CELL by CELL."""
    lot, reasons = value
    if lot.has(one) == lot.has(other):
        return False
    rim = {beside for cell in lot.cells for beside in own.touching(cell)} - set(lot.cells)
    if [cell for cell, _ in reasons] != sorted(rim):
        return False
    return all(reason_holds(part, stands, tool, cell, reason) for cell, reason in reasons)


def settings():
    """Scenes, what stands there, tools, and places at which they can stand."""
    chance = samples.some(7)
    rows = list(itertools.product(samples.SCENES.values(), samples.TOOLS.values()))
    for (part, stock), tool in rows[::2] + [((NICHE.part, NICHE.stock), BARE), ((CHAMBERS.part, CHAMBERS.stock), BARE)]:
        cells = sorted(own.cells_in(stock))
        stands = chance.choice([cells, [], [cell for cell in cells if chance.random() < 0.4]])
        sides = own.axes(own.room(part, stock, tool))
        places = []
        while len(places) < 6:
            row = [chance.randint(6 * low - 20, 6 * high + 20) * Fraction(1, 6) for low, high in sides]
            if len(places) < 4:
                row = [min(max(number, low + 1), high - 1) for number, (low, high) in zip(row, sides)]
            if own.stands_at(part, stands, tool, row):
                places.append(row)
        yield part, stock, tuple(stands), tool, places


class Ways(unittest.TestCase):
    def check(self, scene, stands, tool, one, other):
        """That there is a way just where own going on finds one; and what else holds of it or of the fence."""
        told = way(scene, stands, tool, one, other)
        if told is None:
            value = fence(scene, stands, tool, one, other)
            self.assertIs(type(value), tuple)
            self.assertTrue(is_fence(scene.part, stands.cells, tool, one, other, value))
            self.assertIs(shows_fence(scene, stands, tool, one, other, value), True)
            self.assertIs(shows_fence(scene, stands, tool, other, one, value), True)
            self.assertIs(way(scene, stands, tool, other, one), None)
        else:
            self.assertIs(type(told), tuple)
            self.assertTrue(is_way(scene.part, stands.cells, tool, one, other, told), told)
            assert_equal_value(self, NoFence, told, fence, scene, stands, tool, one, other)
            self.assertIs(shows_way(scene, stands, tool, other, one, told[::-1]), True)
        self.assertIs(shows_way(scene, stands, tool, one, other, told), True)
        self.assertIs(shows_way(scene, stands, tool, one, other, None), told is None)
        return told

    def test_wherever_it_can_stand(self):
        for part, stock, stands, tool, places in settings():
            scene, lot = Scene(part, stock), Lot(stands)
            for one, other in itertools.combinations(places, 2):
                self.check(scene, lot, tool, own.point_of(one), own.point_of(other))

    def test_just_if_both_are_in_one_piece(self):
        for scene, tool in ((CHEST, BARE), (OPEN_CHEST, BARE), (CHAMBERS, BARE), (NICHE, BARE), (Scene(*samples.HOLE), NARROW)):
            for stands in (scene.stands, Lot(())):
                cells = own.free(scene.part, scene.stock, stands.cells, tool)
                found = own.pieces(cells)
                ends = [sorted(piece)[at] for piece in found for at in (0, len(piece) // 2, -1)]
                for one, other in itertools.product(ends, repeat=2):
                    told = self.check(scene, stands, tool, *[own.point_of(own.sample_of(cell)) for cell in (one, other)])
                    self.assertIs(told is not None, any(one in piece and other in piece for piece in found))

    def test_both_the_same(self):
        for row in ((1, 1, 1), (50, THIRD, -7), (HALF, HALF, 5)):
            point = own.point_of(row)
            self.assertEqual(way(CHEST, Lot(()), BARE, point, point), (point,))
            self.assertIs(shows_way(CHEST, Lot(()), BARE, point, point, (point,) * 3), True)

    def test_far_places(self):
        rows = [(10 ** 8, HALF, HALF), (-10 ** 8, HALF, THIRD), (HALF, 10 ** 8, -10 ** 8), (1, 1, 10 ** 8), (1, 1, -10 ** 8),
                (Fraction(10 ** 40, 3), Fraction(10 ** 40, 7), -Fraction(10 ** 40, 9)), (3, 3, 3), (-7, HALF, HALF)]
        for one, other in itertools.product([own.point_of(row) for row in rows], repeat=2):
            for tool in (BARE, samples.WIDE):
                told = way(CHEST, CHEST.stands, tool, one, other)
                self.assertEqual((told[0], told[-1]), (one, other))
                self.assertIs(shows_way(CHEST, CHEST.stands, tool, one, other, told), True)
                rows = [own.numbers(point) for point in told]
                for start, end in zip(rows, rows[1:]):
                    moments = [Fraction(at, 200) for at in range(201)]
                    if max(abs(a - b) for a, b in zip(start, end)) < 100:
                        moments = own.bounds_crossed(start, end)
                    self.assertTrue(all(own.stands_at(CHEST.part, (), tool, own.at_moment(start, end, moment)) for moment in moments))

    def test_what_stands_may_part(self):
        scene, one = Scene((), ((0, 1, 0, 1, 0, 3),)), own.point_of((0, 0, 1))
        self.assertIsNotNone(self.check(scene, lot_of_boxes(((0, 1, 0, 1, 0, 1),)), NARROW, one, OUTER))
        split = lot_of_boxes(((0, 1, 0, 1, 0, 1), (0, 1, 0, 1, 2, 3)))
        assert_refused(self, NotFree, one, way, scene, split, NARROW, one, OUTER)
        shaft = Scene((), ((0, 3, 0, 3, 0, 3),))
        shell = shaft.stands.less(within_boxes(((1, 2, 1, 2, 1, 2),)))
        self.assertIsNone(self.check(shaft, shell, samples.UNDER, INNER, OUTER))
        self.assertIsNotNone(self.check(shaft, shell.less(within_boxes(((1, 2, 1, 2, 0, 4),))), samples.UNDER, INNER, OUTER))
        # Of this shaft through the whole of it only the sheets at both ends stand, of no thickness: they bar it, too.
        sheets = shell.less(within_boxes(((1, 2, 1, 2, 0, 3),)))
        self.assertIsNone(self.check(shaft, sheets, samples.UNDER, INNER, OUTER))
        self.assertIsNotNone(self.check(shaft, sheets.less(Lot(((3, 3, 0),))), samples.UNDER, INNER, OUTER))


def assert_equal_value(test, error, value, look, *args):
    with test.assertRaises(error) as caught:
        look(*args)
    test.assertEqual(caught.exception.value, value)


class WaysNearToThese(unittest.TestCase):
    def shows(self, one, other, value, scene=OPEN_CHEST):
        return shows_way(scene, scene.stands, BARE, one, other, value)

    def test_an_own_look_says_the_same(self):
        chance = samples.some(8)
        told = way(OPEN_CHEST, OPEN_CHEST.stands, BARE, INNER, OUTER)
        values = [told[:at] + told[at + 1:] for at in range(len(told))]
        for at in range(len(told)):
            for step in ((1, 0, 0), (0, -1, 0), (0, 0, HALF), (THIRD, 0, 0), (5, 5, 5)):
                point = own.point_of([a + b for a, b in zip(own.numbers(told[at]), step)])
                values += [replaced(told, at, point), told[:at + 1] + (point,) + told[at:], told[:at] + (point,) + told[at:]]
        values += [told + told[-1:], told[:1] + told, told[::-1], told + told[::-1], told[::-1] + told, told + told[::-1] + told]
        values += [tuple(chance.sample(told, len(told))) for _ in range(5)] + [(INNER, OUTER), (INNER,), (OUTER,)]
        shown = [self.shows(INNER, OUTER, value) for value in values]
        self.assertEqual(shown, [is_way(OPEN_CHEST.part, OPEN_CHEST.stands.cells, BARE, INNER, OUTER, value) for value in values])
        self.assertEqual({type(flag) for flag in shown}, {bool})
        self.assertIn(True, shown)
        self.assertIn(False, shown)

    def test_values_of_other_kinds(self):
        told = way(OPEN_CHEST, OPEN_CHEST.stands, BARE, INNER, OUTER)
        for value in strange() + bent_points() + [list(told), (told,), (), list(told[0]), told + (None,), {0: told}, [told],
                                                  tuple(list(point) for point in told), OPEN_CHEST, Lot(()), own.numbers(told[0])]:
            self.assertIs(self.shows(INNER, OUTER, value), False)
        for at in range(len(told)):
            self.assertIs(self.shows(INNER, OUTER, replaced(told, at, list(told[at]))), False)
            self.assertIs(self.shows(INNER, OUTER, told[:at] + (((2, 2), (1, 1), (1, 1)),) + told[at:]), False)
            self.assertIs(self.shows(INNER, OUTER, replaced(told, at, ((True, 1), (1, 1), (1, 1)))), False)
        self.assertIs(self.shows(INNER, INNER, (((1, True), (1, 1), (1, 1)),)), False)
        self.assertIs(self.shows(INNER, INNER, (INNER,)), True)
        self.assertIs(self.shows(INNER, INNER, None), False)

    def test_along_walls_and_through_them(self):
        scene = Scene(((0, 1, 0, 1, 0, 3),), ((0, 2, 0, 2, 0, 1),))
        at = [own.point_of(row) for row in ((-1, -1, 0), (-1, 1, 0), (1, 1, 0), (1, -1, 0), (0, -1, 0), (0, 1, 0), (0, 0, 3))]
        for value, shown in (((0, 1, 2), True), ((0, 3, 2), True), ((0, 2), False), ((0, 4, 5, 2), False), ((0, 4, 4, 3, 2), True),
                             ((0, 1, 5, 1, 5, 2), True), ((0, 6, 2), False)):
            self.assertIs(shows_way(scene, scene.stands, BARE, at[0], at[2], tuple(at[number] for number in value)), shown, value)


class Fences(unittest.TestCase):
    def shows(self, value, scene=CHEST, one=INNER, other=OUTER, stands=None):
        return shows_fence(scene, scene.stands if stands is None else stands, BARE, one, other, value)

    def test_in_a_hollow(self):
        lot, reasons = fence(CHEST, CHEST.stands, BARE, INNER, OUTER)
        self.assertEqual([lot.cells, len(reasons)], [((2, 2, 2),), 26])
        self.assertEqual([cell for cell, _ in reasons], sorted(own.touching((2, 2, 2))))
        self.assertEqual({type(row) for row in (reasons, *reasons)}, {tuple})

    def test_between_two_hollows(self):
        scene, tool = Scene((), ((0, 5, 0, 3, 0, 3),)), samples.UNDER
        stands = scene.stands.less(within_boxes(((1, 2, 1, 2, 1, 2), (3, 4, 1, 2, 1, 2))))
        ends = [own.point_of(row) for row in ((1, 1, 1), (3, 1, 1), (-3, 1, 1))]
        for one, other in itertools.permutations(ends, 2):
            value = fence(scene, stands, tool, one, other)
            self.assertTrue(is_fence((), stands.cells, tool, one, other, value))
            self.assertIs(shows_fence(scene, stands, tool, one, other, value), True)
            self.assertIs(way(scene, stands, tool, one, other), None)
            self.assertLess(len(value[0]), 2)
        both = Lot(((2, 2, 2), (6, 2, 2)))
        reasons = tuple((cell, own.bars((), stands.cells, tool, own.sample_of(cell))[0])
                        for cell in sorted(own.touching((2, 2, 2)) + own.touching((6, 2, 2))))
        shown = [shows_fence(scene, stands, tool, one, other, (both, reasons)) for one, other in itertools.permutations(ends, 2)]
        self.assertEqual(shown, [False, True, False, True, True, True])
        joined = stands.less(within_boxes(((1, 4, 1, 2, 1, 2),)))
        self.assertIsNotNone(way(scene, joined, tool, *ends[:2]))
        self.assertIsNone(way(scene, joined, tool, *ends[1:]))

    def test_values_near_to_these(self):
        lot, reasons = fence(CHEST, CHEST.stands, BARE, INNER, OUTER)
        self.assertIs(self.shows((lot, reasons)), True)
        other = ((0, 0, 0), ("cutter", 0, 0))
        wrong = [(lot, reasons[:at] + reasons[at + 1:]) for at in range(len(reasons))]
        wrong += [(lot, reasons + (other,)), (lot, (other,) + reasons), (lot, reasons + reasons[-1:]), (lot, reasons[::-1]),
                  (lot, reasons[1:] + reasons[:1]), (lot, ()), (lot, reasons[:1]), (Lot(()), ()), (Lot(()), reasons)]
        wrong += [(Lot(((2, 2, 2), (3, 2, 2))), reasons), (lot_of_boxes(((-5, 9, -5, 9, -5, 9),)), ()), (Lot(((-4, 2, 1),)), reasons)]
        for value in wrong:
            self.assertIs(self.shows(value), False, value)
            self.assertIs(is_fence(CHEST.part, CHEST.stands.cells, BARE, INNER, OUTER, value), False)

    def test_each_reason_that_holds(self):
        lot, reasons = fence(CHEST, CHEST.stands, BARE, INNER, OUTER)
        for at, (cell, _) in enumerate(reasons):
            for reason in [(word, b, a) for word in ("cutter", "holder") for b in (-1, 0, 1) for a in range(-1, 7)] + [
                    ("stands", 0, cell), ("stands", 0, (3, 3, 3)), ("cutter", 0, cell), ("cutter",), ("cutter", 0), ()]:
                value = (lot, replaced(reasons, at, (cell, reason)))
                self.assertIs(self.shows(value), reason_holds(CHEST.part, CHEST.stands.cells, BARE, cell, reason))

    def test_reasons_of_what_stands(self):
        tool, scene = (UNIT, ((0, 1, 0, 1, 1, 2),)), Scene(samples.CHEST[0][:5], ((0, 3, 0, 3, 0, 4),))
        stands = lot_of_boxes(((0, 3, 0, 3, 3, 4),))
        one = own.point_of((1, 1, 1))
        lot, reasons = fence(scene, stands, tool, one, OUTER)
        self.assertTrue(is_fence(scene.part, stands.cells, tool, one, OUTER, (lot, reasons)))
        self.assertIn("stands", {reason[0] for _, reason in reasons})
        for at, (cell, _) in enumerate(reasons):
            for reason in own.bars(scene.part, stands.cells, tool, own.sample_of(cell)):
                self.assertIs(shows_fence(scene, stands, tool, one, OUTER, (lot, replaced(reasons, at, (cell, reason)))), True)
            for met in ((3, 3, 99), [3, 3, 7], (3, 3), 0, (True, 3, 7), (3, 3, 5)):
                value = (lot, replaced(reasons, at, (cell, ("stands", 0, met))))
                self.assertIs(shows_fence(scene, stands, tool, one, OUTER, value), False)

    def test_other_kinds_of_values(self):
        lot, reasons = fence(CHEST, CHEST.stands, BARE, INNER, OUTER)
        cell, reason = reasons[0]
        values = strange() + [[lot, reasons], (lot, list(reasons)), (lot.cells, reasons), (lot, reasons, ()), (lot,), (reasons, lot),
                              (lot, {at: row for at, row in enumerate(reasons)}), (lot, None), (None, reasons), lot, CHEST]
        for row in ([cell, reason], (cell, list(reason)), (list(cell), reason), (cell,), cell, reason, (cell, reason, 0), None,
                    (cell, (reason[0], False, reason[2])), (cell, (reason[0], reason[1], bool(reason[2]))), (cell, None),
                    (cell, (None, 0, 0)), (cell, ("cutter", 0, None)), (cell, "cutter"), (True, False, 0), (cell, (reason,)),
                    (cell, nested(0, 55, lambda core: (core,)))):
            values.append((lot, (row,) + reasons[1:]))
        one = ((1, 1, 1), ("cutter", 0, 0))
        self.assertEqual(reasons[0][0], (1, 1, 1))
        self.assertIs(self.shows((lot, (one,) + reasons[1:])), True)
        values += [(lot, (((True, 1, 1), one[1]),) + reasons[1:]), (lot, ((one[0], ("cutter", False, 0)),) + reasons[1:])]
        for value in values:
            self.assertIs(self.shows(value), False, value)

    def test_any_lot_will_do(self):
        # The hollow and all that bars it, so the rim lies further out.
        bigger = Lot(tuple(itertools.product(range(1, 4), repeat=3)))
        rim = sorted({beside for cell in bigger.cells for beside in own.touching(cell)} - set(bigger.cells))
        reasons = tuple((cell, own.bars(CHEST.part, (), BARE, own.sample_of(cell))[0]) for cell in rim)
        self.assertIs(self.shows((bigger, reasons)), True)
        # All that is outside of the hollow, as far as LOTS go, has a rim beyond.
        self.assertIs(self.shows((Lot((own.cell_at(own.numbers(OUTER)),)), reasons)), False)

    def test_where_there_is_a_way_nothing_is_a_fence(self):
        lot, reasons = fence(CHEST, CHEST.stands, BARE, INNER, OUTER)
        for value in ((lot, reasons), (lot, reasons[:-1]), (Lot(()), ()), None, (Lot(((2, 2, 2), (2, 2, 3))), reasons)):
            self.assertIs(self.shows(value, scene=OPEN_CHEST), False)
        self.assertIs(self.shows((lot, reasons), one=INNER, other=INNER), False)
        self.assertIs(self.shows((lot, reasons), one=OUTER, other=OUTER), False)


class Refused(unittest.TestCase):
    def rows(self):
        return [("scene", CHEST, NoScene, bent_scenes()), ("stands", Lot(()), NoLot, bent_lots()),
                ("tool", BARE, BadTool, bent_tools()[::2] + [None]), ("one", INNER, BadPoint, bent_points()),
                ("other", OUTER, BadPoint, bent_points())]

    def test_way_and_fence(self):
        check_refusals(self, way, self.rows())
        check_refusals(self, fence, self.rows())

    def test_shows(self):
        for look, value in itertools.product((shows_way, shows_fence), (None, (INNER, OUTER), (Lot(()), ()), 0)):
            check_refusals(self, look, self.rows() + [("value", value, None, [])])

    def test_not_free_for_one_then_for_other(self):
        barred, worse = own.point_of((0, 0, 0)), own.point_of((HALF, HALF, THIRD))
        for look, more in ((way, ()), (fence, ()), (shows_way, (None,)), (shows_fence, (None,))):
            assert_refused(self, NotFree, barred, look, CHEST, CHEST.stands, BARE, barred, INNER, *more)
            assert_refused(self, NotFree, barred, look, CHEST, CHEST.stands, BARE, INNER, barred, *more)
            assert_refused(self, NotFree, barred, look, CHEST, CHEST.stands, BARE, barred, worse, *more)
            assert_refused(self, NotFree, worse, look, CHEST, CHEST.stands, BARE, worse, barred, *more)
            assert_refused(self, NotFree, worse, look, CHEST, CHEST.stands, BARE, worse, worse, *more)
            # What is wrong as such comes sooner.
            assert_refused(self, BadPoint, None, look, CHEST, CHEST.stands, BARE, barred, None, *more)
            assert_refused(self, NoLot, None, look, CHEST, None, BARE, barred, None, *more)

    def test_no_fence_comes_last(self):
        one = own.point_of((0, 0, 0))
        assert_refused(self, NotFree, one, fence, OPEN_CHEST, Lot(()), BARE, INNER, one)
        assert_equal_value(self, NoFence, (INNER,), fence, CHEST, Lot(()), BARE, INNER, INNER)
        told = way(OPEN_CHEST, Lot(()), BARE, INNER, OUTER)
        assert_equal_value(self, NoFence, told, fence, OPEN_CHEST, Lot(()), BARE, INNER, OUTER)


if __name__ == "__main__":
    unittest.main()
