"""What CELLS and LOTS refuse, and which error comes first."""

import unittest

from allitreaches.cells import cell_of, sample, touches
from allitreaches.errors import BadBoxes, BadCell, BadCells, BadPoint, NoLot, TooFar
from allitreaches.lots import Lot, lot_of_boxes, meeting, swept, within_boxes
from tests.values import assert_refused, replaced, strange
from tests.wrong import CUBE, ZERO, bent_boxes, bent_cells, bent_lots, bent_points, check_refusals

LOT = Lot(((0, 0, 0), (1, 1, 1)))


def bent_tuples_of_cells():
    """Values that are no tuples of CELLS with indices from -200 to 200."""
    bent = [value for value in strange() if value != ()] + [(0, 0, 0), [(0, 0, 0)], {(0, 0, 0): True}, LOT, (LOT,)]
    bent += [(cell,) for cell in bent_cells()] + [((0, 0, 0), cell) for cell in bent_cells()] + ["000", (((0, 0, 0),),)]
    for at in range(3):
        for index in (201, -201, 400, -10 ** 8, 10 ** 8):
            bent += [(replaced((0, 0, 0), at, index),), ((1, 1, 1), replaced((200, -200, 200), at, index), (0, 0, 0))]
    return bent


def bent_boxes_of_lots():
    """Values that are no tuples of none to 40 BOXES with numbers from -90 to 90."""
    bent = [value for value in strange() if value != ()] + [CUBE, [CUBE], {CUBE: 0}, ((CUBE,),), (CUBE, [CUBE]), (CUBE, ())]
    bent += [(box,) for box in bent_boxes()] + [(CUBE, box, CUBE) for box in bent_boxes()[::3]]
    bent += [(CUBE,) * 41, (CUBE,) * 100, LOT, (LOT,), ((-91, 0, 0, 1, 0, 1),), ((0, 1, 0, 1, 0, 91),)]
    for at in range(6):
        bent += [(replaced((-90, 90) * 3, at, 91 if at % 2 else -91),), (CUBE, replaced((-90, 90) * 3, at, 10 ** 8 * (-1, 1)[at % 2]))]
    return bent


class Cells(unittest.TestCase):
    def test_bad_point_and_bad_cell(self):
        check_refusals(self, cell_of, [("point", ZERO, BadPoint, bent_points())])
        check_refusals(self, sample, [("cell", (0, 1, -1), BadCell, bent_cells())])
        check_refusals(self, touches, [("one", (0, 1, -1), BadCell, bent_cells()), ("other", (0, 0, 0), BadCell, bent_cells())])


class Lots(unittest.TestCase):
    def test_bad_cells(self):
        check_refusals(self, Lot, [("cells", ((0, 0, 0),), BadCells, bent_tuples_of_cells())])

    def test_indices_at_their_bounds(self):
        for at in range(3):
            for index in (200, -200, 199, -199):
                cell = replaced((0, 1, 2), at, index)
                self.assertEqual(Lot((cell,)).cells, (cell,))

    def test_methods(self):
        check_refusals(self, LOT.has, [("point", ZERO, BadPoint, bent_points())])
        for look in (LOT.is_in, LOT.joined, LOT.both, LOT.less):
            check_refusals(self, look, [("other", Lot(()), NoLot, bent_lots())])
        for look in (Lot(()).is_in, Lot(()).joined, Lot(()).both, Lot(()).less):
            check_refusals(self, look, [("other", LOT, NoLot, bent_lots())])


class Boxes(unittest.TestCase):
    def test_bad_boxes(self):
        for look in (lot_of_boxes, within_boxes):
            check_refusals(self, look, [("boxes", (CUBE,), BadBoxes, bent_boxes_of_lots())])

    def test_numbers_at_their_bounds(self):
        edges = ((-90, -89, 89, 90, -90, -89), (89, 90, -90, -89, 0, 1))
        self.assertEqual(len(lot_of_boxes(edges)), 54)
        self.assertEqual(within_boxes(edges).cells, ((-179, 179, -179), (179, -179, 1)))
        self.assertEqual(lot_of_boxes((CUBE,) * 40), lot_of_boxes((CUBE,)))
        self.assertEqual(swept(LOT, (CUBE,) * 40), swept(LOT, (CUBE,)))

    def test_swept_and_meeting(self):
        for look in (swept, meeting):
            check_refusals(self, look, [("lot", LOT, NoLot, bent_lots()), ("boxes", (CUBE,), BadBoxes, bent_boxes_of_lots())])

    def test_too_far_comes_last(self):
        far = Lot(((200, 200, 200), (-200, -200, -200)))
        for look in (swept, meeting):
            assert_refused(self, TooFar, None, look, far, (CUBE,))
            assert_refused(self, TooFar, None, look, boxes=(CUBE,), lot=far)
            assert_refused(self, NoLot, None, look, None, (CUBE,) * 41)
            assert_refused(self, BadBoxes, (boxes := (CUBE,) * 41), look, far, boxes)
            assert_refused(self, BadBoxes, None, look, Lot(()), None)


if __name__ == "__main__":
    unittest.main()
