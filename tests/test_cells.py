"""CELLS of POINTS, their samples, and which of them touch."""

import itertools
import unittest
from fractions import Fraction

from allitreaches.cells import cell_of, sample, touches
from tests import own

FRACTIONS = sorted({Fraction(top, bottom) for bottom in (1, 2, 3, 7, 100) for top in range(-3 * bottom, 3 * bottom + 1)})


class CellOf(unittest.TestCase):
    def test_numbers_and_gaps(self):
        told = [(0, 0), (1, 2), (-1, -2), (7, 14), (Fraction(1, 2), 1), (Fraction(-1, 2), -1), (Fraction(1, 3), 1),
                (Fraction(2, 3), 1), (Fraction(-1, 3), -1), (Fraction(-2, 3), -1), (Fraction(3, 2), 3), (Fraction(-3, 2), -3),
                (Fraction(99, 100), 1), (Fraction(101, 100), 3), (Fraction(-99, 100), -1), (Fraction(-101, 100), -3),
                (Fraction(999999999, 2), 999999999), (999999999, 1999999998), (Fraction(1, 999999999), 1)]
        for number, index in told:
            for at in range(3):
                row = [5, Fraction(-5, 2), 0]
                row[at] = number
                cell = [10, -5, 0]
                cell[at] = index
                self.assertEqual(cell_of(own.point_of(row)), tuple(cell))

    def test_each_spot_lies_in_its_cell(self):
        for at, number in enumerate(FRACTIONS):
            row = (number, FRACTIONS[-at], FRACTIONS[at // 2])
            cell = cell_of(own.point_of(row))
            self.assertIs(type(cell), tuple)
            for index, spot in zip(cell, row):
                self.assertIs(type(index), int)
                low, high = own.ends(index)
                self.assertTrue(low == spot == high if index % 2 == 0 else low < spot < high, (index, spot))

    def test_great_numbers(self):
        great = 10 ** 5000
        self.assertEqual(cell_of(((great, 1), (-great, 3), (1, great))), (2 * great, -2 * (great // 3) - 1, 1))


class Sample(unittest.TestCase):
    def test_there_and_back(self):
        for cell in itertools.product(range(-5, 6), repeat=3):
            point = sample(cell)
            self.assertEqual(own.numbers(point), own.sample_of(cell))
            self.assertEqual(point, own.point_of(own.sample_of(cell)))
            self.assertEqual(cell_of(point), cell)

    def test_indices_have_no_bounds(self):
        self.assertEqual(sample((999999999, -999999998, 0)), ((999999999, 2), (-499999999, 1), (0, 1)))
        self.assertIs(touches((10 ** 8, 0, 0), (10 ** 8 + 1, 0, 0)), True)
        self.assertIs(touches((201, 0, 0), (-201, 0, 0)), False)


class Touches(unittest.TestCase):
    def test_just_if_one_lies_at_the_rim_of_the_other(self):
        for one in itertools.product((-1, 0, 3, 4), repeat=3):
            for step in itertools.product((-2, -1, 0, 1, 2), repeat=3):
                other = tuple(index + by for index, by in zip(one, step))
                told = touches(one, other)
                self.assertIs(told, own.at_rim(one, other) or own.at_rim(other, one), (one, other))
                self.assertIs(touches(other, one), told)

    def test_not_with_itself(self):
        for cell in itertools.product((-2, -1, 0, 1), repeat=3):
            self.assertIs(touches(cell, cell), False)

    def test_one_within_the_closure_of_the_other(self):
        # A spot is at the rim of a gap if spots of the gap are as near to it as one likes.
        for one in itertools.product((0, 1), repeat=3):
            for other in own.near(one):
                close = all(low <= spot <= high for (low, high), spot in zip(map(own.ends, other), own.sample_of(one)))
                self.assertIs(own.at_rim(one, other), close and one != other)

    def test_how_many(self):
        counts = [sum(touches(cell, other) for other in own.near(cell)) for cell in ((1, 1, 1), (0, 0, 0), (0, 1, 1))]
        self.assertEqual(counts, [26, 26, 8 + 2])


if __name__ == "__main__":
    unittest.main()
