"""Programs that machines run all or nothing, machines that are equal, and what machines refuse."""

import itertools
import unittest
from fractions import Fraction

from allitreaches.errors import Askew, BadLine, BadPart, BadPoint, BadProgram, BadStock, BadTools, Cuts, NoTool, NotOutside, Stopped
from allitreaches.lots import Lot
from allitreaches.machine import Machine
from allitreaches.places import Scene
from tests import samples
from tests.machines import check_standing, line_to, new, refusal, settings, sides_of, some_line, some_lines
from tests.samples import BARE, NARROW, UNIT, WIDE
from tests.values import assert_refused, strange
from tests.wrong import ZERO, bent_lines, bent_parts, bent_points, bent_stocks, bent_toolss, check_refusals

BLOCK = ((0, 2, 0, 2, 0, 2),)


class Runs(unittest.TestCase):
    def test_all_or_nothing(self):
        chance = samples.some(81)
        numbers = []
        for part, stock, tools in settings(82, 20):
            sides = sides_of(part, stock, tools)
            machine, mill = new(part, stock, tools)
            for _ in range(6):
                trial = mill.copy()
                rows = [line for line, right in some_lines(chance, trial, sides, 12) if right is None]
                if chance.random() < 0.5:
                    wrong = some_line(chance, trial, sides)
                    rows.insert(chance.randint(0, len(rows)), wrong if not refusal(machine.copy().do, wrong) or wrong[:2] == "to" else "rem")
                rows = [row for row in rows if refusal(machine.copy().do, row) is None or refusal(machine.copy().do, row)[0] != "BadLine"]
                number = mill.run(rows)
                right = None if number is None else ("Stopped", number)
                self.assertEqual(refusal(machine.run, "\n".join(rows)), right, (part, stock, tools, rows))
                check_standing(self, machine, mill)
                numbers.append(number)
        self.assertGreater(numbers.count(None), 40)
        self.assertGreater(len(numbers) - numbers.count(None), 20)
        self.assertGreater(len(set(numbers)), 5)

    def test_a_program_line_by_line_is_the_same(self):
        chance = samples.some(83)
        for part, stock, tools in settings(84, 5):
            machine, mill = new(part, stock, tools)
            rows = [line for line, right in some_lines(chance, mill, sides_of(part, stock, tools), 30) if right is None]
            other = machine.copy()
            for line in rows:
                self.assertIsNone(machine.do(line))
            self.assertIsNone(other.run(program="\n".join(rows)))
            self.assertIs(other == machine, True)
            check_standing(self, other, mill)

    def test_a_further_run_goes_on_from_there(self):
        machine, mill = new((), BLOCK, (NARROW, BARE))
        rows = ["tool 0\nto 0 0 1", "to 0 0 0\nrem\nto 0 0 2", "tool 1\nto 0 0 1/2", "", "rem", "to 1 0 1/2\nto 5 0 1/2\nto 5 0 2\ntool 0"]
        for text in rows:
            self.assertIsNone(machine.run(text))
            self.assertIsNone(mill.run(text.split("\n") if text else []))
            check_standing(self, machine, mill)
        self.assertEqual(machine.turns, (0, 1, 0))

    def test_stopped_at_the_first_line_that_do_refuses(self):
        told = [("to 0 0 0", 1), ("tool 2", 1), ("rem\ntool 0\ntool 9", 3), ("tool 0\nto 0 0 1\ntool 1", 3), ("tool 0\nto 1 1 2", 2),
                ("tool 0\nto 0 0 1\nto 0 0 0\nto 1/2 0 0\nto 0 0 0", 4), ("tool 0\nto 1 0 2\nto 1 0 0\nto 9 9 9", 3)]
        for text, number in told:
            machine, mill = new(((1, 2, 0, 1, 0, 1),), BLOCK, (NARROW, BARE))
            for _ in range(2):
                assert_refused(self, Stopped, number, machine.run, text)
                check_standing(self, machine, mill)
            self.assertEqual(mill.run(text.split("\n")), number)

    def test_bad_program_ahead_of_stopped(self):
        machine, mill = new((), BLOCK, (NARROW,))
        for text, number in (("to 0 0 0\nto", 2), ("tool 7\nrem\n\nrem", 3), ("tool 0\nto 0 0 0\ntool", 3), ("x", 1), ("to 0 0 0\n", 2)):
            assert_refused(self, BadProgram, number, machine.run, text)
            check_standing(self, machine, mill)
        for value in [value for value in strange() if not isinstance(value, str)] + [["rem"], ("rem",), machine]:
            assert_refused(self, BadProgram, 0, machine.run, value)
            assert_refused(self, BadProgram, 0, machine.run, program=value)
        check_standing(self, machine, mill)


class Equal(unittest.TestCase):
    def rows(self):
        """Machines that differ, each twice, made apart."""
        rows = []
        for part, stock, tools in (((), BLOCK, (NARROW, BARE)), ((), BLOCK, (NARROW,)), (UNIT, BLOCK, (NARROW, BARE)),
                                   ((), BLOCK * 2, (NARROW, BARE)), ((), UNIT, (BARE, NARROW))):
            texts = ["", "tool 0", "tool 0\nto 0 0 3", "tool 0\nto 0 0 1\nto 0 0 2", "tool 0\ntool 0", "tool 0\nto 0 0 3\nto 1 0 3"]
            texts += ["tool 1", "tool 0\ntool 1", "tool 1\ntool 0"] if len(tools) > 1 else []
            for text in texts:
                if refusal(Machine(part, stock, tools).run, text) is None:
                    rows.append([Machine(part, stock, tools) for _ in range(2)])
                    for machine in rows[-1]:
                        machine.run(text)
        return rows

    def test_alike_in_all_things(self):
        rows = self.rows()
        self.assertGreater(len(rows), 25)
        for (at, (one, _)), (number, (_, other)) in itertools.product(enumerate(rows), repeat=2):
            self.assertIs(one == other, at == number, (at, number))
            self.assertIs(one != other, at != number)

    def test_copies(self):
        for one, other in self.rows():
            copy = one.copy()
            self.assertIs(type(copy), Machine)
            self.assertIs(copy == other, True)
            copy.run("rem")
            self.assertIs(copy == other, True)
            copy.run("tool 0" if copy.tool is None else line_to([Fraction(*number) for number in copy.place[:2]] + [99]))
            self.assertIs(copy == one, False)
            self.assertIs(one == other, True)

    def test_what_stands_counts(self):
        one, other = (Machine((), BLOCK, (BARE,)) for _ in range(2))
        one.run("tool 0\nto 0 0 0\nto 0 0 2")
        other.run("tool 0\nto 0 0 1\nto 0 0 2")
        self.assertEqual((one.tool, one.place, one.turns), (other.tool, other.place, other.turns))
        self.assertIs(one == other, False)
        other.run("to 0 0 0\nto 0 0 2")
        self.assertIs(one == other, True)
        # The same volume, by other spots: the sheet between both cubes.
        one, other = (Machine((), ((0, 1, 0, 1, 0, 2),), (BARE,)) for _ in range(2))
        one.run("tool 0\nto 0 0 0\nto 0 0 2")
        other.run("tool 0\nto -1 0 2\nto -1 0 1\nto 0 0 1\nto -1 0 1\nto -1 0 0\nto 0 0 0\nto -1 0 0\nto -1 0 2\nto 0 0 2")
        self.assertEqual((one.volume(), one.place, one.turns), (other.volume(), other.place, other.turns))
        self.assertIs(one == other, False)

    def test_equal_to_nothing_else(self):
        machine = Machine((), UNIT, (BARE,))
        for value in strange() + [((), UNIT, (BARE,)), Scene((), UNIT), machine.lot(), Lot(()), [machine], (machine,)]:
            self.assertIs(machine == value, False)
            self.assertIs(value == machine, False)
            self.assertIs(machine != value, True)
        for look in (lambda a, b: a < b, lambda a, b: a + b, lambda a, b: a & b, lambda a, b: a in b):
            self.assertRaises(TypeError, look, machine, machine)


class Refused(unittest.TestCase):
    def test_parts_stocks_and_tools(self):
        check_refusals(self, Machine, [("part", UNIT, BadPart, bent_parts()), ("stock", UNIT, BadStock, bent_stocks()),
                                       ("tools", (BARE, WIDE), BadTools, bent_toolss())])

    def test_lines(self):
        for ahead in ("", "tool 0", "tool 0\nto 0 0 1"):
            machine, mill = new((), BLOCK, (NARROW,))
            machine.run(ahead)
            mill.run(ahead.split("\n") if ahead else [])
            for value in strange() + bent_lines() + [machine, Lot(()), ["rem"], ("tool", 0), ("rem",), b"rem"]:
                assert_refused(self, BadLine, value, machine.do, value)
            assert_refused(self, BadLine, None, machine.do, line=None)
            check_standing(self, machine, mill)

    def test_points(self):
        machine, mill = new((), BLOCK, (NARROW,))
        for value in bent_points():
            assert_refused(self, BadPoint, value, machine.has, value)
        assert_refused(self, BadPoint, None, machine.has, point=None)
        for look in (machine.has, machine.do, machine.run):
            self.assertRaises(TypeError, look)
            self.assertRaises(TypeError, look, ZERO, ZERO)
        check_standing(self, machine, mill)

    def test_the_first_one_in_sequence(self):
        machine, mill = new(((0, 1, 0, 1, 0, 1),), BLOCK, (NARROW, BARE))
        half = ((1, 2), (0, 1), (0, 1))
        with self.assertRaises(NoTool) as caught:
            machine.do("to 1/2 0 0")
        self.assertIsNone(caught.exception.value)
        assert_refused(self, NoTool, 2, machine.do, "tool 2")
        for line in ("tool 0", "to 0 0 3", "to 0 0 1"):
            machine.do(line)
            mill.do(line)
        place = machine.place
        # Not outside, and no such tool; askew, and into the part.
        for line in ("tool 2", "tool 1", "tool 0"):
            assert_refused(self, NotOutside, place, machine.do, line)
        self.assertEqual(refusal(machine.do, "to 1/2 0 0"), ("Askew", half))
        with self.assertRaises(Askew):
            machine.do("to 1/2 0 0")
        assert_refused(self, Cuts, 0, machine.do, "to 0 0 0")
        assert_refused(self, Cuts, 0, machine.do, "to 0 0 -9")
        check_standing(self, machine, mill)


if __name__ == "__main__":
    unittest.main()
