"""LOTS put together, their pieces and closures."""

import itertools
import unittest

from allitreaches.lots import Lot
from tests import own
from tests.samples import some, some_cells
from tests.values import strange

EDGES = [(200, 0, 0), (-200, 0, 0), (0, 200, 0), (0, -200, 0), (0, 0, 200), (0, 0, -200), (200, 200, 200), (-200, -200, -200)]


def some_lots():
    """Tuples of CELLS: none, one, several, some of them twice, near and far."""
    chance = some(1)
    rows = [(), ((0, 0, 0),), ((1, 1, 1),) * 3, ((200, -200, 200), (-200, 200, 0)), ((0, 0, 1), (0, 0, 0), (0, 0, 1))]
    rows += [some_cells(chance, many, -2, 2) for many in (2, 5, 9, 20, 40, 90, 200)]
    rows += [some_cells(chance, many, -200, 200) for many in (3, 30)]
    rows += [tuple(itertools.product((0, 1, 2), repeat=3)), tuple(itertools.product((1, 3), (0, 1), (-1, 1)))]
    return rows


class Together(unittest.TestCase):
    def test_a_lot_is_its_spots(self):
        for cells in some_lots():
            lot = Lot(cells)
            self.assertEqual(lot.cells, tuple(sorted(set(cells))))
            self.assertIs(type(lot.cells), tuple)
            self.assertEqual(len(lot), len(set(cells)))
            self.assertEqual(lot.cubes, sum(x % 2 == y % 2 == z % 2 == 1 for x, y, z in set(cells)))
            self.assertIs(type(lot.cubes), int)

    def test_has(self):
        for cells in some_lots()[:9]:
            lot = Lot(cells)
            for row in itertools.product([number / 4 for number in range(-5, 6)], repeat=3):
                self.assertIs(lot.has(own.point_of(row)), own.cell_at(row) in cells)
        self.assertIs(Lot(((1, 1, 1),)).has(((1, 100), (99, 100), (1, 3))), True)
        self.assertIs(Lot(((1, 1, 1),)).has(((1, 100), (101, 100), (1, 3))), False)
        self.assertIs(Lot(((200, 1, -200),)).has(((100, 1), (1, 3), (-100, 1))), True)
        self.assertIs(Lot(()).has(((10 ** 9, 1), (0, 1), (0, 1))), False)

    def test_equal_ones(self):
        for one, other in itertools.product(some_lots(), repeat=2):
            same = set(one) == set(other)
            self.assertIs(Lot(one) == Lot(other), same)
            self.assertIs(Lot(one) != Lot(other), not same)
            self.assertIs(Lot(one) == Lot(one[::-1] + one), True)

    def test_equal_to_nothing_else(self):
        lot = Lot(((0, 0, 0),))
        for value in strange() + [((0, 0, 0),), [lot], (lot,), lot.cells]:
            self.assertIs(lot == value, False)
            self.assertIs(value == lot, False)
            self.assertIs(lot != value, True)
            self.assertIs(value != lot, True)
            self.assertIs(Lot(()) == value, False)

    def test_other_operators_know_no_lots(self):
        lot = Lot(((0, 0, 0),))
        for value in (lot, Lot(()), 1, None, (0, 0, 0), "", lot.cells):
            for look in (lambda a, b: a < b, lambda a, b: a <= b, lambda a, b: a + b, lambda a, b: a - b, lambda a, b: a & b,
                         lambda a, b: a | b, lambda a, b: b - a, lambda a, b: b > a, lambda a, b: b & a):
                self.assertRaises(TypeError, look, lot, value)

    def test_joined_both_less_and_is_in(self):
        for one, other in itertools.product(some_lots(), repeat=2):
            first, second = Lot(one), Lot(other)
            self.assertEqual(first.joined(second).cells, tuple(sorted(set(one) | set(other))))
            self.assertEqual(first.both(second).cells, tuple(sorted(set(one) & set(other))))
            self.assertEqual(first.less(second).cells, tuple(sorted(set(one) - set(other))))
            self.assertIs(first.is_in(second), set(one) <= set(other))
            self.assertIs(first.is_in(first.joined(second)), True)
            self.assertEqual((first.cells, second.cells), (tuple(sorted(set(one))), tuple(sorted(set(other)))))

    def test_by_name(self):
        one, other = Lot(cells=((0, 0, 0), (1, 0, 0))), Lot(((1, 0, 0),))
        self.assertIs(one.has(point=((0, 1),) * 3), True)
        self.assertIs(other.is_in(other=one), True)
        self.assertEqual([len(one.joined(other=other)), len(one.both(other=other)), len(one.less(other=other))], [2, 1, 1])

    def test_attributes_are_there_at_once(self):
        for name in ("cells", "cubes", "is_closed", "is_open"):
            self.assertTrue(hasattr(Lot(()), name))


class Pieces(unittest.TestCase):
    def test_by_own_going_on(self):
        for cells in some_lots():
            told = Lot(cells).pieces()
            self.assertIs(type(told), tuple)
            self.assertEqual([set(piece.cells) for piece in told], own.pieces(set(cells)))
            self.assertEqual([piece.cells[0] for piece in told], sorted(piece.cells[0] for piece in told))
            self.assertEqual(sum(len(piece) for piece in told), len(set(cells)))

    def test_touching_is_not_being_near(self):
        told = [((1, 1, 1), (3, 1, 1)), ((1, 1, 1), (2, 1, 1)), ((0, 0, 0), (1, 1, 1)), ((1, 0, 0), (0, 1, 0)),
                ((1, 0, 0), (0, 1, 0), (0, 0, 0)), ((1, 0, 0), (0, 1, 0), (1, 1, 0)), ((0, 0, 0), (2, 0, 0)),
                ((200, 0, 0), (199, 1, 1)), ((-200, -200, -200), (-199, -199, -199)), ((-200, 0, 0), (200, 0, 0))]
        self.assertEqual([len(Lot(cells).pieces()) for cells in told], [2, 1, 1, 2, 1, 1, 2, 1, 1, 2])

    def test_none(self):
        self.assertEqual(Lot(()).pieces(), ())


class Closures(unittest.TestCase):
    def test_closure_and_closed_and_open(self):
        for cells in some_lots() + [tuple(own.cells_in(((0, 1, 0, 2, 0, 1),))), tuple(own.cells_within(((0, 1, 0, 2, 0, 1),)))]:
            lot, cells = Lot(cells), set(cells)
            rims = {other for cell in cells for other in own.rims(cell)}
            self.assertEqual(set(lot.closure().cells), cells | rims)
            self.assertIs(lot.is_closed, rims <= cells)
            self.assertIs(lot.closure().is_closed, True)
            around = {other for cell in cells for other in own.near(cell) if own.at_rim(cell, other)}
            self.assertIs(lot.is_open, around <= cells)

    def test_a_cube_and_its_parts(self):
        cube = Lot(((1, 1, 1),))
        self.assertEqual([cube.is_open, cube.is_closed, len(cube.closure())], [True, False, 27])
        self.assertEqual([cube.closure().is_open, cube.closure().is_closed], [False, True])
        rim = cube.closure().less(cube)
        self.assertEqual([rim.is_open, rim.is_closed, len(rim), len(rim.pieces())], [False, True, 26, 1])
        corner = Lot(((0, 0, 0),))
        self.assertEqual([corner.is_open, corner.is_closed, corner.closure() == corner], [False, True, True])

    def test_none(self):
        self.assertEqual([Lot(()).is_closed, Lot(()).is_open, Lot(()).closure() == Lot(())], [True, True, True])
        self.assertEqual([len(Lot(())), Lot(()).cubes, Lot(()).cells, Lot(()).is_in(Lot(()))], [0, 0, (), True])

    def test_at_the_bounds(self):
        for cell in EDGES:
            lot = Lot((cell,))
            self.assertEqual([lot.is_closed, lot.is_open, lot.closure() == lot], [True, False, True])
            block = Lot(tuple(other for other in own.near(cell) if max(map(abs, other)) <= 200))
            # Beyond the bounds no LOT has a CELL, so none that has an index there is open.
            self.assertIs(block.is_open, False)
            self.assertEqual(block.closure().is_closed, True)
        self.assertIs(Lot(((199, 199, 199), (-199, 1, 1))).is_open, True)
        self.assertEqual(len(Lot(((199, 199, 199),)).closure()), 27)
        self.assertEqual(Lot(((-199, -200, 200),)).closure().cells, ((-200, -200, 200), (-199, -200, 200), (-198, -200, 200)))


if __name__ == "__main__":
    unittest.main()
