"""POINTS as texts, and back."""

import math
import unittest

from allitreaches.errors import BadPoint
from allitreaches.points import point_text, read_point
from tests.values import assert_refused, greater, replaced, strange

ORIGIN = ((0, 1), (0, 1), (0, 1))

TOLD = [
    (ORIGIN, "0 0 0"),
    (((1, 1), (2, 1), (3, 1)), "1 2 3"),
    (((-1, 1), (-20, 1), (300, 1)), "-1 -20 300"),
    (((1, 2), (-1, 2), (0, 1)), "1/2 -1/2 0"),
    (((3, 2), (-7, 3), (22, 7)), "3/2 -7/3 22/7"),
    (((1, 999999999), (-999999999, 1), (999999999, 999999998)), "1/999999999 -999999999 999999999/999999998"),
    (((10, 1), (100, 3), (-1, 10)), "10 100/3 -1/10"),
]

# Each of these words spoils the text of a POINT, wherever it stands there.
BENT_WORDS = [
    "", "+1", "+0", "-0", "--1", "-", "+", "01", "00", "-01", "1/1", "0/1", "-1/1", "2/4", "6/3", "1/0", "0/0", "-1/0",
    "1/-2", "-1/-2", "1/+2", "0/2", "1/02", "01/2", "+1/2", "-0/2", "1/", "/2", "/", "1//2", "1/2/3", "1.5", "1e3",
    "1_0", "0x1", "x", "None", "True", "1,", "(1,", "1;", "1/2x", "x1/2", "- 1", "1 /2", "1/ 2", "10/4", "3/9",
    "1\t", "\t1", "1\n", "\n1", "1\r", "1\v", "1..2", "1:2", "1-", "1-2", "-1/", "1/2/", "9/1", "1/2-", "'1'", "0 ",
]


def bent_texts():
    """Texts that are told of no POINT."""
    texts = ["", " ", "  ", "0", "0 0", "0 0 0 0", "1/2 1/2", "1/2 0 0 1/2", "0 0 0\n0 0 0", "0,0,0", "0,0 0", "(0 0 0)"]
    for text in ("0 0 0", "1 2 3", "1/2 -3 4/5"):
        words = text.split(" ")
        texts += [" " + text, text + " ", "\t" + text, text + "\t", "\n" + text, text + "\n", text + "\r", "  ".join(words)]
        texts += ["\t".join(words), "\n".join(words), "".join(words), ", ".join(words), " " + text + " ", text + " 0"]
        texts += [text.replace(" ", "  ", 1), text.replace(" ", "\t", 1), text.replace(" ", "\n", 1), "+" + text]
        for word in BENT_WORDS:
            texts += [" ".join(words[:at] + [word] + words[at + 1:]) for at in range(3)]
    return texts


def bent_fractions():
    """Values that are no FRACTIONS."""
    return [
        (0, 2), (0, 0), (0, -1), (1, 0), (-1, 0), (1, -1), (1, -2), (-1, -2), (2, 4), (2, 2), (-2, 4), (6, 3), (-9, 3),
        (True, 1), (False, 1), (1, True), (0, True), (True, True), (1, None), (None, 1), ("1", 1), (1, "1"), "1", "1/2",
        (1,), (1, 2, 3), (), [1, 2], [0, 1], {0: 1}, 0, 1, True, False, None, ((1, 2),), ((1, 1), 1), (1, (1, 1)),
        (1, [1]), ([1], 1), (10 ** 9 - 1, 10 ** 9 - 1), {"top": 1, "bottom": 2}, (1, {}),
    ]


class PointTexts(unittest.TestCase):
    def test_there_and_back(self):
        for point, text in TOLD:
            self.assertEqual(point_text(point), text)
            self.assertEqual(read_point(text), point)

    def test_all_small_ones_there_and_back(self):
        fractions = [(top, bottom) for top in range(-12, 13) for bottom in range(1, 13) if math.gcd(top, bottom) == 1]
        for at, fraction in enumerate(fractions):
            point = (fraction, fractions[-at], (at - 9, 1))
            words = [str(top) if bottom == 1 else f"{top}/{bottom}" for top, bottom in point]
            self.assertEqual(point_text(point), " ".join(words))
            self.assertEqual(read_point(" ".join(words)), point)

    def test_what_is_told_is_of_these_kinds(self):
        self.assertIs(type(point_text(ORIGIN)), str)
        point = read_point("1/2 3 -1")
        self.assertEqual([type(part) for part in (point, *point)], [tuple] * 4)
        self.assertEqual([type(number) for part in point for number in part], [int] * 6)

    def test_arguments_by_name(self):
        self.assertEqual(point_text(point=ORIGIN), "0 0 0")
        self.assertEqual(read_point(text="0 0 0"), ORIGIN)

    def test_bent_texts_are_refused(self):
        for text in bent_texts():
            with self.subTest(text=text):
                assert_refused(self, BadPoint, text, read_point, text)

    def test_only_texts_of_points_are_read(self):
        words = ("0", "1", "-1", "1/2", "-1/2", "2/4", "-0", "01", "")
        right = {"0": (0, 1), "1": (1, 1), "-1": (-1, 1), "1/2": (1, 2), "-1/2": (-1, 2)}
        for row in [(x, y, z) for x in words for y in words for z in words]:
            text = " ".join(row)
            if all(word in right for word in row):
                self.assertEqual(read_point(text), tuple(right[word] for word in row))
            else:
                assert_refused(self, BadPoint, text, read_point, text)

    def test_strange_values_are_refused(self):
        for value in strange():
            assert_refused(self, BadPoint, value, point_text, value)
            assert_refused(self, BadPoint, value, read_point, value)
        for value in (ORIGIN, ["0 0 0"], ("0", "0", "0"), ["0", "0", "0"], b"0 0 0"):
            assert_refused(self, BadPoint, value, read_point, value)
        for value in ("0 0 0", list(ORIGIN), ORIGIN[:2], ORIGIN + ((0, 1),), (0, 0, 0), (ORIGIN,), tuple(map(list, ORIGIN))):
            assert_refused(self, BadPoint, value, point_text, value)

    def test_bent_fractions_are_refused_on_each_axis(self):
        for bent in bent_fractions() + strange():
            if bent != (0, 1):
                for at in range(3):
                    point = replaced(((1, 2), (-3, 1), (0, 1)), at, bent)
                    assert_refused(self, BadPoint, point, point_text, point)

    def test_great_numbers_that_were_told(self):
        great = greater(5000)
        point = ((great, great + 1), (-great, 1), (1, great))
        text = point_text(point)
        self.assertEqual(read_point(text), point)
        self.assertEqual(point_text(read_point(text)), text)
        first, second, third = text.split(" ")
        self.assertEqual(second[1:], third[2:])
        self.assertEqual(first.split("/")[0], second[1:])
        self.assertGreater(len(third), 5000)
        assert_refused(self, BadPoint, (bent := "0" + text), read_point, bent)
        twice = ((2 * great, 2), (0, 1), (0, 1))
        assert_refused(self, BadPoint, twice, point_text, twice)

    def test_figures_of_great_numbers(self):
        for figures in (59, 60, 61, 119, 120, 121, 180, 999):
            for number in (10 ** figures, 10 ** figures - 1, 10 ** figures + 7, -10 ** figures, 3 * 10 ** figures + 10 ** 60):
                point = ((number, 1), (0, 1), (1, abs(number)))
                text = f"{number} 0 1/{abs(number)}"
                self.assertEqual(point_text(point), text)
                self.assertEqual(read_point(text), point)

    def test_arguments_stay_as_they_are(self):
        bent = [[0, 1], [0, 1], [0, 1]]
        assert_refused(self, BadPoint, bent, point_text, bent)
        assert_refused(self, BadPoint, bent, read_point, bent)
        self.assertEqual(bent, [[0, 1], [0, 1], [0, 1]])


if __name__ == "__main__":
    unittest.main()
