"""BOXES: texts, moved, grown, hull, where, clash, volume."""

import itertools
import unittest
from fractions import Fraction

from allitreaches.boxes import box_text, clash, grown, hull, moved, read_box, volume, where
from allitreaches.errors import BadBox
from allitreaches.points import read_point
from tests.values import assert_refused, greater

CUBE = (0, 1, 0, 1, 0, 1)
SMALL = [CUBE, (-1, 2, 0, 1, 3, 5), (-2, -1, -3, 3, 0, 4), (0, 4, 0, 3, -1, 2), (1, 2, 1, 2, 1, 2), (0, 2, -1, 1, 1, 3)]

TOLD = [
    (CUBE, "0..1 0..1 0..1"),
    ((0, 4, 0, 3, -1, 2), "0..4 0..3 -1..2"),
    ((-3, -2, -10, 10, 0, 100), "-3..-2 -10..10 0..100"),
    ((-999999999, 999999999, 999999998, 999999999, -999999999, 0),
     "-999999999..999999999 999999998..999999999 -999999999..0"),
]

# Each of these words spoils the text of a BOX, wherever it stands there.
BENT_WORDS = [
    "", "..", "1", "-1", "1..", "..1", "1..1", "2..1", "0..0", "0..-1", "-1..-1", "-1..-2", "9..8", "+0..1", "0..+1",
    "-0..1", "-1..-0", "00..1", "0..01", "01..2", "-01..2", "0.1", "0...1", "0....1", "0. .1", "0 ..1", "0.. 1", "0,1",
    "0..1..2", "..0..1", "0..1..", "0-1", "0:1", "1/2..1", "0..1/2", "0/1..1", "0..1.0", "0.0..1", "0..1e3", "0..1_0",
    "x..1", "0..x", "None..1", "--1..1", "-..1", "0..-", "0x0..1", "0..1\n", "\n0..1", "0..1\t", "\t0..1", "0..1\r",
    "0\n..1", "0..\t1", "(0..1)", "0..1,", "0..True",
]


def bent_texts():
    """Texts that are told of no BOX."""
    texts = ["", " ", "0..1", "0..1 0..1", "0..1 0..1 0..1 0..1", "0 1 0 1 0 1", "0..1,0..1,0..1", "(0..1 0..1 0..1)"]
    for text in ("0..1 0..1 0..1", "-3..-2 0..10 -1..2"):
        words = text.split(" ")
        texts += [" " + text, text + " ", "\t" + text, text + "\t", "\n" + text, text + "\n", text + "\r", "  ".join(words)]
        texts += ["\t".join(words), "\n".join(words), "".join(words), ", ".join(words), " " + text + " ", "+" + text]
        texts += [text.replace(" ", "  ", 1), text.replace(" ", "\t", 1), text.replace(" ", "\n", 1), text + " 0"]
        for word in BENT_WORDS:
            texts += [" ".join(words[:at] + [word] + words[at + 1:]) for at in range(3)]
    return texts


def axes(box):
    return (box[:2], box[2:4], box[4:])


def point_of(numbers):
    return tuple(Fraction(number).as_integer_ratio() for number in numbers)


def quarters(low, high):
    """All quarters from low to high."""
    return [Fraction(number, 4) for number in range(int(4 * low), int(4 * high) + 1)]


def within(box, numbers):
    return all(low < number < high for (low, high), number in zip(axes(box), numbers))


def lies_in(box, numbers):
    return all(low <= number <= high for (low, high), number in zip(axes(box), numbers))


class BoxTexts(unittest.TestCase):
    def test_there_and_back(self):
        for box, text in TOLD:
            self.assertEqual(box_text(box), text)
            self.assertEqual(read_box(text), box)

    def test_all_small_ones_there_and_back(self):
        spans = [(low, high) for low in range(-11, 12) for high in range(low + 1, 12)]
        for at, (low, high) in enumerate(spans):
            box = (low, high) + spans[-at] + spans[at // 2]
            text = "{}..{} {}..{} {}..{}".format(*box)
            self.assertEqual(box_text(box), text)
            self.assertEqual(read_box(text), box)

    def test_what_is_told_is_of_these_kinds(self):
        self.assertIs(type(box_text(CUBE)), str)
        box = read_box("0..1 -2..-1 10..20")
        self.assertIs(type(box), tuple)
        self.assertEqual([type(number) for number in box], [int] * 6)

    def test_bent_texts_are_refused(self):
        for text in bent_texts():
            with self.subTest(text=text):
                assert_refused(self, BadBox, text, read_box, text)

    def test_numbers_that_do_not_ascend_are_refused(self):
        for low, high in itertools.product(range(-3, 4), repeat=2):
            for at in range(3):
                words = ["0..1", "0..1", "0..1"]
                words[at] = f"{low}..{high}"
                text = " ".join(words)
                if low < high:
                    self.assertEqual(read_box(text)[2 * at:2 * at + 2], (low, high))
                else:
                    assert_refused(self, BadBox, text, read_box, text)

    def test_great_numbers_that_were_told(self):
        great = greater(5000)
        box = (-great, great, great, great + 1, 0, great)
        text = box_text(box)
        self.assertGreater(len(text), 25000)
        self.assertEqual(read_box(text), box)
        self.assertEqual(volume(box), 2 * great * great)
        self.assertEqual(moved(box, (great, -great, 5)), (0, 2 * great, 0, 1, 5, great + 5))
        self.assertEqual(grown(box, box), (-2 * great, 2 * great, -1, 1, -great, great))
        self.assertEqual([where(box, ((x, 2), (2 * great + 1, 2), (great, 1))) for x in (2 * great - 1, 2 * great + 1)], [0, -1])
        self.assertEqual([clash(box, moved(box, (step, 0, 0))) for step in (2 * great - 1, 2 * great)], [True, False])
        self.assertEqual(hull((box, CUBE)), (-great, great, 0, great + 1, 0, great))
        assert_refused(self, BadBox, (bent := text + "0."), read_box, bent)


class Moved(unittest.TestCase):
    def test_each_axis_by_its_own_number(self):
        self.assertEqual(moved((0, 1, 2, 4, -3, 5), (10, -20, 300)), (10, 11, -18, -16, 297, 305))
        self.assertEqual(moved(CUBE, (0, 0, 0)), CUBE)
        self.assertEqual(moved((-1, 1, -1, 1, 0, 5), (2, 0, -1)), (1, 3, -1, 1, -1, 4))

    def test_there_and_back(self):
        for box in SMALL:
            for corner in itertools.product((-7, 0, 2), repeat=3):
                told = moved(box, corner)
                self.assertEqual(told, tuple(number + corner[at // 2] for at, number in enumerate(box)))
                self.assertEqual(moved(told, tuple(-number for number in corner)), box)
                self.assertIs(type(told), tuple)


class Grown(unittest.TestCase):
    def test_numbers(self):
        self.assertEqual(grown((0, 4, 0, 3, -1, 2), (-1, 1, -1, 1, 0, 5)), (-1, 5, -1, 4, -6, 2))
        self.assertEqual(grown(CUBE, CUBE), (-1, 1, -1, 1, -1, 1))
        self.assertEqual(grown((0, 10, 20, 30, 40, 50), (1, 2, -4, 3, 5, 9)), (-2, 9, 17, 34, 31, 45))

    def test_places_just_within_have_a_spot_within_both(self):
        for box, by in itertools.product(SMALL[:4], repeat=2):
            told = grown(box, by)
            for axis in range(3):
                low, high = axes(by)[axis]
                start, stop = axes(box)[axis]
                for place in quarters(start - high - 1, stop - low + 1)[::2]:
                    spots = quarters(start, stop)
                    met = any(low + place < spot < high + place for spot in spots)
                    numbers = [Fraction(first + last, 2) for first, last in axes(told)]
                    numbers[axis] = place
                    self.assertEqual(where(told, point_of(numbers)) == 1, met, (box, by, axis, place))

    def test_spots_in_space(self):
        box, by = (0, 1, -1, 1, 2, 3), (-1, 1, 0, 1, 1, 2)
        told = grown(box, by)
        spots = list(itertools.product(*[quarters(low, high) for low, high in axes(box)]))
        for place in itertools.product((-1, Fraction(1, 2), 2), (-3, -2, Fraction(-1, 2), 1), (0, Fraction(1, 2), 1, 2)):
            met = any(within(by, [spot - step for spot, step in zip(spots_at, place)]) for spots_at in spots)
            self.assertEqual(where(told, point_of(place)) == 1, met, place)


class Where(unittest.TestCase):
    def test_within_at_the_rim_and_outside(self):
        box = (0, 4, 0, 3, -1, 2)
        told = [
            ("1 1 1", 1), ("1/2 1/2 -1/2", 1), ("7/2 5/2 3/2", 1), ("1/999 1/999 -998/999", 1), ("3999/1000 1 0", 1),
            ("0 1 1", 0), ("4 1 1", 0), ("1 0 1", 0), ("1 3 1", 0), ("1 1 -1", 0), ("1 1 2", 0), ("1/2 3 1/2", 0),
            ("0 0 1", 0), ("4 1/2 2", 0), ("1 3 -1", 0),
            ("0 0 -1", 0), ("4 3 2", 0), ("0 3 2", 0), ("4 0 -1", 0),
            ("-1 1 1", -1), ("5 1 1", -1), ("1 -1 1", -1), ("1 4 1", -1), ("1 1 -2", -1), ("1 1 3", -1),
            ("-1/999 1 1", -1), ("4001/1000 1 0", -1), ("1 3001/1000 1", -1), ("1 1 -1001/1000", -1),
            ("0 0 3", -1), ("0 -1 0", -1), ("4 3 5/2", -1), ("5 5 5", -1), ("-1/2 0 2", -1),
        ]
        for text, side in told:
            self.assertEqual(where(box, read_point(text)), side, text)
            self.assertIs(type(where(box, read_point(text))), int)

    def test_all_quarters(self):
        for box in [(0, 1, 0, 1, 0, 1), (-1, 1, 2, 3, -2, -1)]:
            for numbers in itertools.product(*[quarters(low - 1, high + 1)[::2] for low, high in axes(box)]):
                side = 1 if within(box, numbers) else 0 if lies_in(box, numbers) else -1
                self.assertEqual(where(box, point_of(numbers)), side, numbers)

    def test_thirds(self):
        for top in range(-9, 10):
            side = 1 if -3 < top < 6 else 0 if top in (-3, 6) else -1
            number = Fraction(top, 3)
            for at in range(3):
                numbers = [Fraction(1, 3)] * 3
                numbers[at] = number
                self.assertEqual(where((-1, 2) * 3, point_of(numbers)), side)


class Clash(unittest.TestCase):
    def test_touching_is_none(self):
        corners = [(x, y, z) for x in (-1, 0, 1) for y in (-1, 0, 1) for z in (-1, 0, 1)]
        for corner in corners:
            other = moved(CUBE, corner)
            self.assertIs(clash(CUBE, other), corner == (0, 0, 0), corner)
            self.assertIs(clash(other, CUBE), corner == (0, 0, 0), corner)

    def test_one_within_the_other_and_equal_ones(self):
        outer = (-5, 5, -5, 5, -5, 5)
        for box in SMALL:
            self.assertIs(clash(box, outer), True)
            self.assertIs(clash(outer, box), True)
            self.assertIs(clash(box, box), True)

    def test_crossing_and_apart(self):
        cross = ((-5, 5, 0, 1, 0, 1), (0, 1, -5, 5, 0, 1))
        self.assertEqual([clash(*cross), clash(*cross[::-1])], [True, True])
        for at in range(3):
            corner = [0, 0, 0]
            corner[at] = 9
            self.assertIs(clash(CUBE, moved(CUBE, tuple(corner))), False)
            self.assertIs(clash(moved(CUBE, tuple(corner)), CUBE), False)

    def test_just_if_a_spot_lies_within_both(self):
        box = (0, 2, -1, 1, 1, 2)
        spots = list(itertools.product(*[quarters(low, high) for low, high in axes(box)]))
        for by in [(0, 1, 0, 2, 0, 1), (-1, 3, 0, 1, -1, 1)]:
            for corner in itertools.product((-3, -1, 0, 2), (-3, -2, 0, 1), (-1, 0, 1, 2)):
                other = moved(by, corner)
                both = any(within(box, spot) and within(other, spot) for spot in spots)
                self.assertIs(clash(box, other), both)
                self.assertIs(clash(other, box), both)


class HullAndVolume(unittest.TestCase):
    def test_hull_of_one(self):
        for box in SMALL:
            self.assertEqual(hull((box,)), box)
            self.assertEqual(hull((box, box)), box)

    def test_hull_of_several(self):
        self.assertEqual(hull((CUBE, (5, 6, -7, -6, 1, 2))), (0, 6, -7, 1, 0, 2))
        self.assertEqual(hull(tuple(SMALL)), (-2, 4, -3, 3, -1, 5))
        self.assertIs(type(hull(tuple(SMALL))), tuple)
        self.assertEqual(hull(tuple(moved(CUBE, (at, -at, 2 * at)) for at in range(100))), (0, 100, -99, 1, 0, 199))

    def test_hull_is_the_least(self):
        for boxes in itertools.permutations(SMALL, 3):
            told = hull(boxes)
            for axis, (low, high) in enumerate(axes(told)):
                self.assertEqual(low, sorted(axes(box)[axis][0] for box in boxes)[0])
                self.assertEqual(high, sorted(axes(box)[axis][1] for box in boxes)[-1])

    def test_volume(self):
        told = [volume(box) for box in SMALL]
        self.assertEqual(told, [1, 6, 24, 36, 1, 8])
        self.assertEqual([type(number) for number in told], [int] * 6)
        self.assertEqual(volume((-999999999, 999999999, 0, 7, 5, 6)), 13999999986)
        for box in SMALL:
            self.assertEqual(volume(moved(box, (-9, 100, 7))), volume(box))


if __name__ == "__main__":
    unittest.main()
