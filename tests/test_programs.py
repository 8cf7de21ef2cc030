"""Programs: MOVES there and back, and the first line that is none."""

import itertools
import unittest
from fractions import Fraction

from allitreaches.errors import BadMoves, BadProgram
from allitreaches.lots import Lot
from allitreaches.machine import Machine
from allitreaches.programs import program_text, read_program
from tests import own, samples
from tests.own_mill import told
from tests.samples import BARE, UNIT
from tests.values import assert_refused, greater, replaced, strange
from tests.wrong import ZERO, bent_lines, bent_moves, bent_points

PRINTABLE = "".join(chr(code) for code in range(32, 127))
HALVES = [Fraction(top, 2) for top in range(-7, 8)] + [Fraction(999999999, 2), -Fraction(999999999, 2), Fraction(-10 ** 8)]


def number_text(number):
    return str(Fraction(number))


def some_move(chance):
    """A MOVE, and its line."""
    word = chance.choice(("tool", "to", "to", "rem"))
    if word == "tool":
        number = chance.choice((0, 1, 2, 3, 10, 999999999))
        return ("tool", number), f"tool {number}"
    if word == "to":
        row = [chance.choice(HALVES) for _ in range(3)]
        return ("to", own.point_of(row)), "to " + " ".join(map(number_text, row))
    signs = "".join(chance.choice(PRINTABLE) for _ in range(chance.randint(0, 12)))
    return ("rem", signs), "rem " + signs if signs else "rem"


class ThereAndBack(unittest.TestCase):
    def check(self, moves, text):
        self.assertEqual(read_program(text), moves)
        self.assertEqual(program_text(moves), text)
        self.assertEqual({type(move) for move in (read_program(text), *read_program(text))} | {tuple}, {tuple})

    def test_each_form(self):
        for number in (0, 1, 9, 10, 123, 999999999):
            self.check((("tool", number),), f"tool {number}")
        for row in itertools.product(HALVES[::2], HALVES[1::3], HALVES[::5]):
            self.check((("to", own.point_of(row)),), "to " + " ".join(map(number_text, row)))
        for signs in (*PRINTABLE, PRINTABLE, "  ", " a", "a ", "rem", "tool 0", "to 0 0 0", "#", "\\n"):
            self.check((("rem", signs),), "rem " + signs)
        self.check((("rem", ""),), "rem")

    def test_many_lines(self):
        chance = samples.some(51)
        for many in list(range(1, 12)) + [500]:
            rows = [some_move(chance) for _ in range(many)]
            self.check(tuple(move for move, _ in rows), "\n".join(line for _, line in rows))

    def test_no_lines(self):
        self.check((), "")

    def test_a_remark_without_signs_behind_the_blank(self):
        self.assertEqual(read_program("rem "), (("rem", ""),))
        self.assertEqual(read_program("rem \nrem\nrem  \nrem   "), (("rem", ""), ("rem", ""), ("rem", " "), ("rem", "  ")))
        self.assertEqual(program_text(read_program("rem \nrem\nrem  ")), "rem\nrem\nrem  ")

    def test_the_moves_are_of_plain_kinds(self):
        ((word, number), (to, point), (rem, signs)) = read_program("tool 1\nto 1/2 -3 0\nrem 1")
        self.assertEqual([type(value) for value in (word, number, to, point, rem, signs)], [str, int, str, tuple, str, str])
        self.assertEqual([type(part) for number in point for part in number], [int] * 6)

    def test_numbers_that_were_told(self):
        great = greater(5000)
        for move in (("tool", great), ("to", ((great, 1), (-great, 1), (2 * great + 1, 2)))):
            self.assertEqual(read_program(program_text((move,))), (move,))


class Refused(unittest.TestCase):
    def test_lines_that_have_none_of_the_forms(self):
        for line in bent_lines():
            self.assertIsNone(told(line) if "\n" not in line else None, line)
            if line:
                number = 1 + line.split("\n").index(next(row for row in line.split("\n") if told(row) is None))
                assert_refused(self, BadProgram, number, read_program, line)
            for ahead in range(1, 4):
                rows = ["rem"] * ahead + line.split("\n") + ["tool 0", "nothing"]
                right = 1 + [told(row) is None for row in rows].index(True)
                with self.assertRaises(BadProgram) as caught:
                    read_program(text="\n".join(rows))
                self.assertEqual(caught.exception.value, right, line)
                self.assertIs(type(caught.exception.value), int)

    def test_a_line_feed_at_the_end_or_the_beginning(self):
        assert_refused(self, BadProgram, 2, read_program, "tool 0\n")
        assert_refused(self, BadProgram, 1, read_program, "\ntool 0")
        assert_refused(self, BadProgram, 1, read_program, "\n")
        assert_refused(self, BadProgram, 3, read_program, "rem\nrem \n\nrem")

    def test_against_own_forms(self):
        words = ["tool", "to", "rem", "", "0", "-0", "1", "-1", "1/2", "2/2", "-3/2", "0/2", "1/1", "1/3", "01", "+1", "a", "1.5", "/2", "1/"]
        chance = samples.some(52)
        shown = []
        for _ in range(6000):
            line = " ".join(chance.choice(words) for _ in range(chance.choice((1, 2, 2, 3, 4, 4, 4, 5))))
            if chance.random() < 0.6:
                line = chance.choice(("to", "tool", "rem")) + " " + line
            right = told(line)
            shown.append(right is not None)
            if not line:
                continue
            if right is None:
                assert_refused(self, BadProgram, 1, read_program, line)
            else:
                self.assertEqual(read_program(line), (right,))
        self.assertGreater(shown.count(True), 500)

    def test_what_is_no_string(self):
        for value in [value for value in strange() if not isinstance(value, str)] + [Lot(()), ["tool 0"], ("rem",), Machine((), UNIT, (BARE,))]:
            assert_refused(self, BadProgram, 0, read_program, value)
        for value in [value for value in strange() if isinstance(value, str) and value]:
            assert_refused(self, BadProgram, 1, read_program, value)

    def test_what_is_no_tuple_of_moves(self):
        good = (("tool", 0), ("to", ZERO), ("rem", "x"))
        for value in bent_moves():
            bent = (value,)
            assert_refused(self, BadMoves, bent, program_text, bent)
            for number in range(3):
                bent = replaced(good, number, value)
                assert_refused(self, BadMoves, bent, program_text, bent)
        for value in [value for value in strange() if value != ()] + [list(good), good[0], {move: 0 for move in good}, "tool 0", (good,)]:
            assert_refused(self, BadMoves, value, program_text, moves=value)
        for point in bent_points():
            value = (("to", point),)
            assert_refused(self, BadMoves, value, program_text, value)


if __name__ == "__main__":
    unittest.main()
