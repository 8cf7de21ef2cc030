"""LOTS of BOXES: those that lie in them or within them, that they sweep, and the places where they meet."""

import itertools
import unittest

from allitreaches.errors import TooFar
from allitreaches.lots import Lot, lot_of_boxes, meeting, swept, within_boxes
from tests import own
from tests.samples import some, some_box, some_cells
from tests.values import assert_refused

CUBE = (0, 1, 0, 1, 0, 1)

BOXES = [
    (), (CUBE,), (CUBE, CUBE), (CUBE, (1, 2, 0, 1, 0, 1)), (CUBE, (2, 3, 0, 1, 0, 1)), ((0, 3, 0, 3, 0, 3), (1, 2, 1, 2, 1, 2)),
    ((0, 2, 0, 2, 0, 1), (1, 3, 1, 3, 0, 1)), ((-1, 1, -2, 0, 0, 1), (0, 2, -1, 1, 0, 3), (0, 1, 0, 1, -2, 0)),
    ((-3, -1, 0, 1, 2, 3),), ((-90, -89, 89, 90, 0, 1),), (CUBE, (1, 2, 1, 2, 1, 2)), (CUBE,) * 40,
]


def touching_sides():
    """A cube and another one at each of its sides, edges and corners."""
    return [(CUBE, (x, x + 1, y, y + 1, z, z + 1)) for x, y, z in itertools.product((-1, 0, 1), repeat=3)]


class OfBoxes(unittest.TestCase):
    def test_spot_by_spot(self):
        for boxes in BOXES + touching_sides():
            self.assertEqual(set(lot_of_boxes(boxes).cells), own.cells_in(boxes))
            self.assertEqual(set(within_boxes(boxes).cells), own.cells_within(boxes))

    def test_has_spots(self):
        boxes = ((0, 2, 0, 1, 0, 1), (1, 3, 0, 1, 0, 2), (-1, 0, -1, 0, 0, 1))
        lot, inner = lot_of_boxes(boxes), within_boxes(boxes)
        for row in itertools.product([number / 3 for number in range(-4, 10)], (-1, -0.5, 0, 0.25, 1, 1.5), (0, 0.5, 1, 1.75, 2)):
            point = own.point_of([round(12 * number) / 12 for number in row])
            spot = own.numbers(point)
            self.assertIs(lot.has(point), any(own.lies_in(box, spot) for box in boxes))
            self.assertIs(inner.has(point), any(own.lies_within(box, spot) for box in boxes))

    def test_closed_and_open(self):
        for boxes in BOXES + touching_sides():
            self.assertIs(lot_of_boxes(boxes).is_closed, True)
            self.assertIs(within_boxes(boxes).is_open, True)
            self.assertIs(within_boxes(boxes).is_in(lot_of_boxes(boxes)), True)

    def test_how_many(self):
        self.assertEqual([len(lot_of_boxes((CUBE,))), len(within_boxes((CUBE,))), len(lot_of_boxes(()))], [27, 1, 0])
        self.assertEqual(lot_of_boxes(((0, 2, 0, 3, 0, 4),)).cubes, 24)
        self.assertEqual(within_boxes(((-90, 90, 0, 1, 0, 1),)).cells, tuple((x, 1, 1) for x in range(-179, 180)))


class Swept(unittest.TestCase):
    def test_axis_by_axis(self):
        for index in range(-4, 5):
            for low, high in itertools.combinations(range(-3, 4), 2):
                told = {cell[0] for cell in swept(Lot(((index, 0, 0),)), ((low, high, 0, 1, 0, 1),)).cells}
                first, last = own.ends(index)
                # From the one end of the places' span to the other, all between, and no end is counted in.
                spots = {spot for spot in range(-20, 21)
                         if first + low < own.sample_of((spot,))[0] < last + high}
                self.assertEqual(told, spots, (index, low, high))
                back = {cell[0] for cell in meeting(Lot(((index, 0, 0),)), ((low, high, 0, 1, 0, 1),)).cells}
                self.assertEqual(back, {place for place in range(-20, 21)
                                        if first - high < own.sample_of((place,))[0] < last - low})

    def test_cells_of_numbers_and_of_gaps(self):
        chance = some(2)
        for cell in itertools.product((0, 1, -3, 4), repeat=3):
            boxes = tuple(some_box(chance, -3, 3, 3) for _ in range(2))
            self.assertEqual(set(swept(Lot((cell,)), boxes).cells), own.swept((cell,), boxes))
            self.assertEqual(set(meeting(Lot((cell,)), boxes).cells), own.meeting((cell,), boxes))

    def test_lots_of_several(self):
        chance = some(3)
        for many in (1, 2, 5, 12, 40):
            for number in (1, 2, 3):
                cells = some_cells(chance, many, -6, 7)
                boxes = tuple(some_box(chance, -4, 4, 4) for _ in range(number))
                self.assertEqual(set(swept(Lot(cells), boxes).cells), own.swept(cells, boxes))
                self.assertEqual(set(meeting(Lot(cells), boxes).cells), own.meeting(cells, boxes))

    def test_the_one_leads_back_to_the_other(self):
        chance = some(4)
        for _ in range(60):
            place, spot = some_cells(chance, 2, -4, 4)
            boxes = tuple(some_box(chance, -3, 3, 3) for _ in range(2))
            self.assertEqual(spot in swept(Lot((place,)), boxes).cells, place in meeting(Lot((spot,)), boxes).cells)

    def test_far_boxes(self):
        far = ((80, 90, -90, -89, 0, 1),)
        for cell in ((3, -3, 0), (-160, 160, 1), (-200, 200, -200)):
            self.assertEqual(set(swept(Lot((cell,)), far).cells), own.swept((cell,), far))
        for cell in ((160, -160, 1), (0, 0, 0)):
            self.assertEqual(set(meeting(Lot((cell,)), far).cells), own.meeting((cell,), far))

    def test_far_apart(self):
        cells = ((-190, 0, 0), (191, 1, 3), (0, -150, 1))
        boxes = (CUBE, (-2, 1, 0, 2, 0, 1))
        self.assertEqual(set(swept(Lot(cells), boxes).cells), own.swept(cells, boxes))
        self.assertEqual(set(meeting(Lot(cells), boxes).cells), own.meeting(cells, boxes))

    def test_nothing(self):
        lot = Lot(((0, 0, 0), (200, 200, 200)))
        for look in (swept, meeting):
            self.assertEqual(look(Lot(()), (CUBE,)), Lot(()))
            self.assertEqual(look(lot, ()), Lot(()))
            self.assertEqual(look(Lot(()), ()), Lot(()))


class FarOff(unittest.TestCase):
    def check(self, look, cells, boxes, let):
        if let:
            told = look(Lot(cells), boxes)
            self.assertLessEqual(max(abs(index) for cell in told.cells for index in cell), 200)
        else:
            assert_refused(self, TooFar, None, look, Lot(cells), boxes)

    def test_just_where_an_index_would_be_beyond(self):
        for axis in range(3):
            for index in [*range(174, 201), *range(-200, -173)]:
                for low, high in ((0, 1), (-1, 0), (3, 9), (-9, -3), (-9, 10)):
                    cell, box = [0, 0, 0], [0, 1, 0, 1, 0, 1]
                    cell[axis] = index
                    box[2 * axis:2 * axis + 2] = low, high
                    cell, box = tuple(cell), tuple(box)
                    for look, reckon in ((swept, own.swept), (meeting, own.meeting)):
                        for cells, boxes in (((cell,), (box,)), (((0, 0, 0), cell), (box,)), ((cell,), (CUBE, box))):
                            rows = {other[axis] for other in reckon(cells, boxes)}
                            self.check(look, cells, boxes, -200 <= min(rows) and max(rows) <= 200)

    def test_the_very_bounds(self):
        self.assertEqual(swept(Lot(((199, 0, 0),)), ((-1, 0, 0, 1, 0, 1),)).cells[-1], (199, 1, 1))
        self.check(swept, ((199, 0, 0),), (CUBE,), False)
        self.check(swept, ((198, 0, 0),), (CUBE,), True)
        self.check(swept, ((200, 0, 0),), (CUBE,), False)
        self.check(swept, ((-200, 0, 0),), (CUBE,), True)
        self.check(meeting, ((-200, 0, 0),), (CUBE,), False)
        self.check(meeting, ((200, 0, 0),), (CUBE,), True)

    def test_only_what_is_swept_counts(self):
        # The lot's own indices may be anywhere.
        self.assertEqual(swept(Lot(((200, 200, 200),)), ((-1, 0, -1, 0, -1, 0),)).cells, ((199, 199, 199),))


if __name__ == "__main__":
    unittest.main()
