"""Journals there and back, and the first line that cannot stand there."""

import unittest

from allitreaches.benches import Bench
from allitreaches.errors import BadJournal
from allitreaches.journals import journal, read_journal
from allitreaches.lots import Lot
from tests import own_drawing, own_mill, samples
from tests.benching import check_bench, check_both_ways, new, some_deed, texts
from tests.own_bench import OwnBench
from tests.values import assert_refused, strange
from tests.wrong import bent_lines

TEXT = "stock 0..2 0..2 0..2\ntool\ncut 0..1 0..1 0..1\nhold 0..1 0..1 1..2"
LINES = ["tool 0", "to 0 0 1", "rem ", "to 0 0 2", "rem on", "tool 0"]
JOURNAL = "\n".join(["drawing 4", TEXT, "deeds"] + LINES)


def first_bad(text):
    """The number of the first line that cannot stand in this journal, 0 if all can."""
    rows = text.split("\n")
    word, _, figures = rows[0].partition(" ")
    if word != "drawing" or not own_mill.TOOL.fullmatch("tool " + figures) or figures == "0":
        return 1
    many = int(figures)
    if len(rows) - 1 < many:
        return len(rows) + 1
    drawn = "\n".join(rows[1:many + 1])
    if isinstance(own_drawing.told(drawn), int):
        return 1
    if rows[many + 1:many + 2] != ["deeds"]:
        return many + 2
    own = OwnBench(drawn)
    for number, line in enumerate(rows[many + 2:], many + 3):
        if own.do(line) is not None:
            return number
    return 0


class ThereAndBack(unittest.TestCase):
    def test_against_an_own_bench(self):
        chance = samples.some(161)
        for text in texts(162, 10):
            bench, own = new(text)
            for _ in range(chance.randint(0, 30)):
                some_deed(self, chance, bench, own)
            told = journal(bench)
            self.assertEqual(told, own.journal())
            self.assertIs(type(told), str)
            other = read_journal(told)
            self.assertIs(type(other), Bench)
            self.assertIs(other == bench, True)
            self.assertEqual(journal(bench=other), told)
            # What was undone is not of the journal: the bench that is read has nothing to do again.
            own.undone = []
            check_bench(self, other, own)
            check_both_ways(self, other, own)

    def test_by_hand(self):
        bench = read_journal(text=JOURNAL)
        self.assertEqual((journal(bench), bench.deeds, len(bench), bench.drawing.text), (JOURNAL, 6, 2, TEXT))
        self.assertEqual(bench.machine().volume(), (7, 1))
        self.assertEqual(journal(Bench(TEXT)), "\n".join(["drawing 4", TEXT, "deeds"]))
        self.assertIs(read_journal("\n".join(["drawing 4", TEXT, "deeds"])) == Bench(TEXT), True)

    def test_it_goes_on_by_itself(self):
        one, other = read_journal(JOURNAL), read_journal(JOURNAL)
        one.do("rem more")
        self.assertEqual((one.deeds, other.deeds), (7, 6))
        for _ in range(6):
            other.undo()
        self.assertIs(other == Bench(TEXT), True)

    def test_many_lines(self):
        rows = TEXT.split("\n")
        text = "\n".join(rows[:1] + ["again 0 0 0"] * 2 + ["keep 0..1 0..1 7..8"] + ["again 0 0 0"] * 5 + rows[1:])
        bench = Bench(text)
        self.assertEqual(journal(bench).split("\n")[0], "drawing 12")
        self.assertIs(read_journal(journal(bench)) == bench, True)
        for number in range(300):
            bench.do(f"rem {number}")
        self.assertIs(read_journal(journal(bench)) == bench, True)


class Refused(unittest.TestCase):
    def check(self, text, number):
        self.assertEqual(first_bad(text), number, text)
        assert_refused(self, BadJournal, number, read_journal, text)

    def test_no_string(self):
        bench = read_journal(JOURNAL)
        for value in [value for value in strange() if not isinstance(value, str)] + [JOURNAL.split("\n"), bench, bench.drawing, (JOURNAL,), Lot(())]:
            assert_refused(self, BadJournal, 0, read_journal, value)
            assert_refused(self, BadJournal, 0, read_journal, text=value)

    def test_the_first_line(self):
        for line in ("", "drawing", "drawing ", "drawing 0", "drawing 04", "drawing +4", "drawing -4", "drawing -0", "drawing 4 ", " drawing 4", "drawing  4",
                     "Drawing 4", "drawing 4 4", "drawing four", "drawing 4/1", "drawings 4", "draw 4", "deeds", TEXT, "rem", "4", "drawing4"):
            self.check("\n".join([line, TEXT, "deeds"]), 1)
            self.check(line, 1)
        self.check("", 1)
        self.check("\n" + JOURNAL, 1)
        for text in ("x", "\n", "\n\n"):
            self.check(text, 1)

    def test_another_number_of_lines(self):
        for many, number in ((1, 1), (2, 1), (3, 5), (5, 1), (6, 1), (11, 1), (12, 13), (13, 13), (123456789, 13)):
            self.check(JOURNAL.replace("drawing 4", f"drawing {many}"), number)
        bare = "\n".join(["drawing 3", TEXT.rpartition("\n")[0], "deeds"])
        self.assertEqual(read_journal(bare).deeds, 0)
        self.check(bare.replace("drawing 3", "drawing 4"), 1)
        self.check(bare.replace("drawing 3", "drawing 2"), 1)

    def test_missing_lines(self):
        rows = JOURNAL.split("\n")
        for many in range(1, 6):
            # In the drawing, and behind it: its lines are looked at just if all of them are there.
            self.check("\n".join(rows[:many]), many + 1)
        for many in range(6, len(rows) + 1):
            self.assertEqual(read_journal("\n".join(rows[:many])).deeds, many - 6)
        self.check("drawing 4\nx\ny\nz", 5)
        self.check("drawing 4\nx\ny\nz\n", 1)
        self.check("drawing 1\n", 1)
        self.check("drawing 2\n", 3)
        self.check("drawing 3\n\n", 4)
        self.check("drawing 4", 2)
        self.check("drawing 1", 2)

    def test_a_drawing_that_is_refused_ahead_of_a_missing_line(self):
        for bent in (TEXT.replace("stock", "stick"), TEXT.replace("1..2", "0..2"), TEXT.replace("tool", ""), TEXT.replace("0..2 0..2 0..2", "0..9 0..2 0..2"),
                     "\n".join(TEXT.split("\n")[:1] * 4), "\n".join(TEXT.split("\n")[::-1])):
            for behind in ([], ["deeds"], ["x"], ["deeds"] + LINES, ["deeds", "x"]):
                self.check("\n".join(["drawing 4", bent] + behind), 1)

    def test_the_line_behind_the_drawing(self):
        for line in ("", "deed", "Deeds", "deeds ", " deeds", "deeds 6", "tool 0", "rem", "drawing 4"):
            self.check("\n".join(["drawing 4", TEXT, line]), 6)
            self.check("\n".join(["drawing 4", TEXT, line, "deeds"] + LINES), 6)

    def test_deeds_that_the_bench_refuses(self):
        begun = ["drawing 4", TEXT, "deeds"]
        self.check("\n".join(begun + ["to 0 0 0"]), 7)
        self.check("\n".join(begun + [""]), 7)
        self.check("\n".join(begun + ["tool 0", "tool 1"]), 8)
        self.check("\n".join(begun + ["tool 0", "to 0 0 1", "tool 0"]), 9)
        self.check("\n".join(begun + ["tool 0", "to 1 1 2"]), 8)
        self.check("\n".join(begun + ["tool 0", "to 0 0 1", "to 0 0 0", "to 1 0 0", "x"]), 10)
        self.check("\n".join(begun + ["undo"]), 7)
        self.check(JOURNAL + "\n", 13)
        for line in [line for line in bent_lines() if "\n" not in line]:
            for at in range(len(LINES) + 1):
                self.check("\n".join(begun + LINES[:at] + [line] + LINES[at:]), 7 + at)

    def test_journals_by_chance(self):
        chance = samples.some(163)
        numbers = []
        for _ in range(700):
            rows = JOURNAL.split("\n") if chance.random() < 0.7 else ["drawing 6"] + TEXT.split("\n")[:1] + ["again 0 0 0", "keep 0..1 0..1 3..4"] + \
                TEXT.split("\n")[1:] + ["deeds", "tool 0", "to 0 0 0"]
            at, to, dice = chance.randrange(len(rows)), chance.randrange(len(rows)), chance.randrange(6)
            if dice == 0:
                del rows[at]
            elif dice == 1:
                rows.insert(to, rows[at])
            elif dice == 2:
                rows[at], rows[to] = rows[to], rows[at]
            elif dice == 3:
                rows = rows[:at]
            elif dice == 4:
                rows[at] = rows[at][:chance.randrange(len(rows[at]) + 1)]
            else:
                rows.insert(to, chance.choice(["tool 0", "to 0 0 2", "rem", "deeds", "again 0 0 0", "drawing 4", "tool", ""]))
            text = "\n".join(rows)
            right = first_bad(text)
            if right:
                with self.assertRaises(BadJournal) as caught:
                    read_journal(text)
                self.assertEqual(caught.exception.value, right, text)
                self.assertIs(type(caught.exception.value), int)
            else:
                self.assertEqual(journal(read_journal(text)), text)
            numbers.append(right)
        self.assertGreater(numbers.count(0), 50)
        self.assertGreater(len(set(numbers)), 10)


if __name__ == "__main__":
    unittest.main()
