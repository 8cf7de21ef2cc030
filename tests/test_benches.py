"""Benches: deeds done and undone, trials, copies."""

import itertools
import unittest

from allitreaches.benches import Bench
from allitreaches.drawings import Drawing
from allitreaches.errors import BadDrawing, BadLine, Meets, NoBlock, NothingToRedo, NothingToUndo
from allitreaches.journals import journal
from allitreaches.lots import Lot
from allitreaches.machine import Machine
from tests import samples
from tests.benching import check_bench, check_both_ways, new, some_deed, texts
from tests.machines import refusal
from tests.own_drawing import told
from tests.values import assert_refused, strange
from tests.wrong import bent_lines

TEXT = "stock 0..2 0..2 0..2\nkeep 0..1 0..1 0..1\ntool\ncut 0..1 0..1 0..1\nhold 0..1 0..1 1..2\ntool\ncut 0..1 0..1 0..1"
LINES = ["tool 0", "to 1 0 2", "rem on", "to 1 0 1", "to 1 0 0", "to 1 0 2", "tool 1", "to 0 1 2", "rem", "to 0 1 0"]


def rows_of(bench):
    """The lines of its deeds, off its journal."""
    return journal(bench).split("\n")[9:]


class Done(unittest.TestCase):
    def test_against_an_own_bench(self):
        chance = samples.some(141)
        for text in texts(142, 8):
            bench, own = new(text)
            check_bench(self, bench, own)
            for number in range(40):
                some_deed(self, chance, bench, own)
                if number % 4 == 0:
                    check_bench(self, bench, own)
            check_both_ways(self, bench, own)
            check_bench(self, bench, own)

    def by_hand(self):
        bench, own = new(TEXT)
        for line in LINES:
            self.assertEqual([refusal(bench.do, line), own.do(line)], [None, None])
        return bench, own

    def test_deeds_are_taken_back_and_done_again(self):
        bench, own = self.by_hand()
        check_bench(self, bench, own)
        self.assertEqual((bench.deeds, len(bench), rows_of(bench)), (10, 2, LINES))
        for _ in range(2):
            for many in range(9, -1, -1):
                self.assertIsNone(bench.undo())
                own.undo()
                self.assertEqual(bench.deeds, many)
                check_bench(self, bench, own)
            self.assertEqual(bench.machine(), Machine(*[bench.drawing.part, bench.drawing.stock, bench.drawing.tools]))
            for _ in range(2):
                self.assertEqual(refusal(bench.undo), ("NothingToUndo", None))
            check_bench(self, bench, own)
            for many in range(1, 11):
                self.assertIsNone(bench.redo())
                own.redo()
                self.assertEqual(bench.deeds, many)
                check_bench(self, bench, own)
            for _ in range(2):
                self.assertEqual(refusal(bench.redo), ("NothingToRedo", None))
            check_bench(self, bench, own)

    def test_a_new_deed_leaves_nothing_to_do_again(self):
        bench, own = self.by_hand()
        for _ in range(3):
            bench.undo()
        # What is refused is no deed, nor are undo and redo.
        for line in ("tool 7", "to", "", "to 1 1 1", "to 1 0 0 "):
            self.assertIsNotNone(refusal(bench.do, line))
        bench.undo()
        bench.redo()
        for _ in range(2):
            bench.redo()
        self.assertEqual((bench.deeds, rows_of(bench)), (9, LINES[:9]))
        bench.undo()
        bench.do("rem new")
        self.assertEqual(refusal(bench.redo), ("NothingToRedo", None))
        self.assertEqual(rows_of(bench), LINES[:8] + ["rem new"])
        # A remark, and a move of no length, are deeds, too.
        bench.undo()
        bench.do("to 0 1 2")
        self.assertEqual(refusal(bench.redo), ("NothingToRedo", None))
        self.assertEqual(bench.deeds, 9)

    def test_lines_stand_as_they_were_handed_in(self):
        bench = Bench(TEXT)
        for line in ("rem", "rem ", "rem  ", "rem a  b ", "tool 0"):
            self.assertIsNone(bench.do(line=line))
        self.assertEqual(rows_of(bench), ["rem", "rem ", "rem  ", "rem a  b ", "tool 0"])
        self.assertEqual((bench.deeds, len(bench)), (5, 1))

    def test_its_machine_stands_by_itself(self):
        bench, own = self.by_hand()
        machine, other = bench.machine(), bench.machine()
        self.assertIs(type(machine), Machine)
        self.assertIs(machine == other, True)
        for line in ("to 0 1 9", "tool 0", "rem"):
            machine.do(line)
        self.assertIs(machine == other, False)
        check_bench(self, bench, own)
        bench.do("to 0 1 9")
        self.assertEqual(other.place, ((0, 1), (1, 1), (0, 1)))
        self.assertIs(bench.machine() == other, False)

    def test_what_it_has_at_once(self):
        bench = Bench(text=TEXT)
        self.assertEqual((bench.drawing, bench.deeds, len(bench)), (Drawing(TEXT), 0, 0))
        self.assertEqual([type(value) for value in (bench.drawing, bench.deeds, len(bench))], [Drawing, int, int])
        self.assertEqual((bench.machine().tool, bench.machine().turns, bench.machine().volume()), (None, (), (8, 1)))


class Copies(unittest.TestCase):
    def test_alike_in_all_things(self):
        chance = samples.some(143)
        for text in texts(144, 3):
            bench, own = new(text)
            for _ in range(25):
                some_deed(self, chance, bench, own)
            other = bench.copy()
            self.assertIs(type(other), Bench)
            self.assertIs(other == bench, True)
            check_bench(self, other, own)
            check_both_ways(self, other, own)

    def test_they_change_alone(self):
        bench, own = new(TEXT)
        rows = []
        for line in LINES:
            bench.do(line)
            own.do(line)
            rows.append((bench.copy(), own.done))
        bench.undo()
        for other, done in rows:
            self.assertEqual(rows_of(other), done)
        other = bench.copy()
        other.redo()
        self.assertEqual((other.deeds, bench.deeds), (10, 9))
        other.undo()
        other.undo()
        other.do("rem x")
        self.assertEqual(refusal(other.redo), ("NothingToRedo", None))
        self.assertIsNone(refusal(bench.redo))
        self.assertEqual(rows_of(bench), LINES)

    def test_equal_just_if_their_journals_are(self):
        rows = []
        for text, lines, undone in ((TEXT, [], 0), (TEXT, ["rem"], 0), (TEXT, ["rem "], 0), (TEXT, ["rem"] * 2, 0), (TEXT, ["rem"] * 3, 1), (TEXT, ["tool 0"], 0),
                                    (TEXT, ["tool 0", "tool 1"], 1), (TEXT, LINES, 0), (TEXT, LINES, 10), (TEXT.replace("0..2 0..2 0..2", "0..2 0..2 0..1"), [], 0),
                                    (TEXT + "\nagain 0 0 0", [], 0), (TEXT + "\ncut 0..1 0..1 0..1", [], 0)):
            bench = Bench(text)
            for line in lines:
                bench.do(line)
            for _ in range(undone):
                bench.undo()
            rows.append(bench)
        for one, other in itertools.product(rows, repeat=2):
            self.assertIs(one == other, journal(one) == journal(other))
            self.assertIs(one != other, journal(one) != journal(other))
        self.assertEqual(len({journal(bench) for bench in rows}), 9)

    def test_equal_to_nothing_else(self):
        bench = Bench(TEXT)
        for value in strange() + [TEXT, journal(bench), bench.drawing, bench.machine(), [bench], (bench,), Lot(())]:
            self.assertIs(bench == value, False)
            self.assertIs(value == bench, False)
            self.assertIs(bench != value, True)
        for look in (lambda a, b: a < b, lambda a, b: a + b, lambda a, b: a & b):
            self.assertRaises(TypeError, look, bench, bench)


class Refused(unittest.TestCase):
    def test_drawings(self):
        for value in [value for value in strange() if not isinstance(value, str)] + [Drawing(TEXT), Bench(TEXT), TEXT.split("\n"), Lot(())]:
            assert_refused(self, BadDrawing, 0, Bench, value)
        for text in ("", "x", TEXT + "\n", "\n" + TEXT, TEXT + "\ntool", TEXT.replace("0..2", "0..9"), TEXT.replace("cut", "Cut"), TEXT.replace("1..2", "0..2")):
            assert_refused(self, BadDrawing, told(text), Bench, text)
            assert_refused(self, BadDrawing, told(text), Bench, text=text)

    def test_lines(self):
        for lines in ([], LINES[:4], LINES):
            bench, own = new(TEXT)
            for line in lines:
                bench.do(line)
                own.do(line)
            for value in strange() + bent_lines() + [bench, ["rem"], ("rem",), ("tool", 0)]:
                assert_refused(self, BadLine, value, bench.do, value)
            check_bench(self, bench, own)

    def test_nothing_to_undo_and_nothing_to_redo(self):
        bench = Bench(TEXT)
        for _ in range(2):
            for look, error in ((bench.undo, NothingToUndo), (bench.redo, NothingToRedo), (bench.keep, NoBlock)):
                assert_refused(self, error, None, look)
        bench.do("rem")
        for look, error in ((bench.redo, NothingToRedo), (bench.keep, NoBlock)):
            assert_refused(self, error, None, look)
        bench.undo()
        assert_refused(self, NothingToUndo, None, bench.undo)
        bench.redo()
        assert_refused(self, NothingToRedo, None, bench.redo)
        self.assertEqual(bench.deeds, 1)

    def test_moves_that_the_machine_refuses(self):
        bench, own = new(TEXT)
        self.assertEqual(refusal(bench.do, "to 0 0 0"), ("NoTool", None))
        bench.do("tool 0")
        own.do("tool 0")
        for line in ("to 0 0 0", "to 1 1 2", "tool 2", "to 0 0 1/2"):
            self.assertEqual(refusal(bench.do, line), own.do(line))
            self.assertIsNotNone(own.mill().do(line))
        for line in ("to 1 0 2", "to 1 0 0"):
            bench.do(line)
            own.do(line)
        assert_refused(self, Meets, None, bench.do, "to 1 1/2 0")
        check_bench(self, bench, own)


if __name__ == "__main__":
    unittest.main()
