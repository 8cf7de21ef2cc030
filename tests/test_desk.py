"""Lines said at a desk, each answer, and the bench behind it."""

import re
import unittest
from fractions import Fraction

from allitreaches.benches import Bench
from allitreaches.desk import Desk
from allitreaches.errors import BadJournal, BadNumber, BadTask
from allitreaches.journals import journal
from allitreaches.lots import Lot
from tests import own, own_mill, samples
from tests.benching import check_bench, new, some_deed, texts
from tests.machines import refusal, sides_of, some_line
from tests.own_drawing import plain_text
from tests.own_turns import own_turns
from tests.samples import BARE, UNIT
from tests.values import assert_refused, strange
from tests.wrong import bent_lines

TEXT = "stock 0..3 0..2 0..2\nkeep 2..3 0..2 0..2\ntool\ncut 0..1 0..1 0..1\nhold 0..1 0..1 1..2\ntool\ncut 0..1 0..1 0..1"
WHOLE = "(?:0|-?[1-9][0-9]*)"


def fraction_of(word):
    """The Fraction of a text of a FRACTION, None for others."""
    if not re.fullmatch(f"{WHOLE}(/[1-9][0-9]*)?", word) or str(Fraction(word)) != word:
        return None
    return Fraction(word)


def layer_text(mill, number):
    """What stands as a whole between two whole numbers of z, by spots in the middle of eighths of cubes."""
    halves, rows = mill.halves(), []
    for y in range(7, -1, -1):
        signs = ""
        for x in range(8):
            middle = (x + Fraction(1, 2), y + Fraction(1, 2), number + Fraction(1, 2))
            cells = [(4 * x + i, 4 * y + j, 4 * number + k) for i in (1, 3) for j in (1, 3) for k in (1, 3)]
            kept = any(own.lies_in(box, middle) for box in mill.part)
            signs += "#" if kept else "o" if all(cell in halves for cell in cells) else "."
        rows.append(signs)
    return " ".join(rows)


def answer(bench, line):
    """What an own desk says at this own bench: (None, answer) or (name of the error, value)."""
    mill = bench.mill()
    if own_mill.told(line) is not None or line in ("undo", "redo"):
        refused = bench.undo() if line == "undo" else bench.redo() if line == "redo" else bench.do(line)
        return refused or (None, "done")
    word, *rest = line.split(" ")
    if line == "volume":
        return None, str(Fraction(*mill.volume()))
    if line == "tool":
        return None, "none" if mill.tool is None else str(mill.tool)
    if line == "place":
        return None, "none" if mill.place is None else " ".join(str(Fraction(number, 8)) for number in mill.place)
    if line in ("left", "fewest"):
        turns = own_turns(mill.part, mill.stock, mill.tools)
        cubes = [cell for cell in turns.rounds()[1] if 0 not in [index % 2 for index in cell]]
        return None, str(len(cubes)) if line == "left" else " ".join(map(str, turns.fewest()[0])) or "none"
    if word == "has" and len(rest) == 3 and None not in map(fraction_of, rest):
        return None, "yes" if mill.has([fraction_of(part) for part in rest]) else "no"
    if word == "layer" and len(rest) == 1 and re.fullmatch(WHOLE, rest[0]):
        number = int(rest[0])
        return (None, layer_text(mill, number)) if 0 <= number <= 7 else ("BadNumber", number)
    return "BadTask", line


def said(desk, line):
    """(None, the answer), or the name of the error and its value."""
    told = refusal(desk.say, line)
    return (None, told[1]) if told[0] == "returned" else told


def begun(text):
    """A desk at which nothing was done, and an own bench."""
    return Desk(journal(Bench(text))), new(text)[1]


ASKED = ["volume", "tool", "place", "left", "fewest", "layer 0", "layer 1", "layer 2", "layer 7", "layer 8", "layer -1", "layer 99", "layer 00",
         "has 0 0 0", "has 1/2 1/2 3/2", "has 1/3 2/3 5/4", "has -1/2 0 0", "has 2/4 0 0", "undo", "redo"]


class Said(unittest.TestCase):
    def check(self, desk, bench, line):
        told = said(desk, line)
        self.assertEqual(told, answer(bench, line), line)
        self.assertEqual(journal(desk.bench), bench.journal())
        if told[0] is None:
            self.assertIs(type(told[1]), str)
        return told

    def test_each_form_against_an_own_bench(self):
        chance = samples.some(171)
        words = []
        for text in texts(172, 2):
            desk, bench = begun(text)
            mill = bench.mill()
            for _ in range(60):
                if chance.random() < 0.6:
                    line = some_line(chance, bench.mill(), sides_of(mill.part, mill.stock, mill.tools))
                else:
                    line = chance.choice(ASKED)
                if chance.random() < 0.2:
                    line = "has " + " ".join(str(Fraction(chance.randint(-3, 18), chance.choice((1, 2, 3, 4)))) for _ in range(3))
                words.append(self.check(desk, bench, line)[0])
            check_bench(self, desk.bench, bench)
        self.assertGreater(words.count(None), 300)
        self.assertGreater(len(set(words)), 6)

    def test_by_hand(self):
        desk, bench = begun(TEXT)
        for line, right in (("tool", "none"), ("place", "none"), ("volume", "12"), ("left", "4"), ("fewest", "0"), ("tool 1", "done"), ("tool", "1"),
                            ("place", "0 0 2"), ("rem", "done"), ("to 0 0 1/2", "done"), ("volume", "21/2"), ("place", "0 0 1/2"), ("undo", "done"),
                            ("volume", "12"), ("redo", "done"), ("has 1/2 1/2 1", "no"), ("has 0 1/2 1", "yes"), ("has 1/3 1/3 1/2", "yes"),
                            ("has 1/3 1/3 5/9", "no"), ("has -1 0 0", "no"),
                            ("layer 0", "........ ........ ........ ........ ........ ........ oo#..... .o#....."),
                            ("layer 1", "........ ........ ........ ........ ........ ........ oo#..... .o#....."),
                            ("layer 2", " ".join(["........"] * 8)), ("to -1/2 0 1/2", "done"), ("volume", "21/2")):
            self.assertEqual(self.check(desk, bench, line), (None, right), line)
        self.assertEqual(journal(desk.bench).split("\n")[9:], ["tool 1", "rem", "to 0 0 1/2", "to -1/2 0 1/2"])

    def test_where_there_is_no_turn(self):
        part, stock = samples.CHEST
        desk, bench = begun(plain_text(stock, part, (BARE,)))
        for line, right in (("fewest", "none"), ("left", "27"), ("tool", "none"), ("place", "none"), ("volume", "27")):
            self.assertEqual(self.check(desk, bench, line), (None, right))
        (part, stock), tools = samples.THREE[1]
        desk, bench = begun(plain_text(stock, part, tools))
        self.assertEqual(self.check(desk, bench, "fewest"), (None, "0 1 2"))

    def test_left_and_fewest_of_a_pocket(self):
        (part, stock), (broad, stepped) = samples.POCKET, (samples.BROAD, samples.STEPPED)
        for tools, left, row in (((broad, stepped), "31", "0 1"), ((stepped, broad), "31", "1 0"), ((broad,), "32", "0"), ((stepped,), "33", "0"),
                                 ((samples.IDLE, stepped, broad), "31", "2 1"), ((samples.IDLE,), "36", "none")):
            desk, bench = begun(plain_text(stock, part, tools))
            for line, right in (("left", left), ("fewest", row), ("tool 0", "done"), ("left", left), ("fewest", row)):
                self.assertEqual(self.check(desk, bench, line), (None, right))

    def test_what_bench_and_layer_raise(self):
        desk, bench = begun(TEXT)
        for line, right in (("undo", ("NothingToUndo", None)), ("redo", ("NothingToRedo", None)), ("to 0 0 0", ("NoTool", None)), ("tool 2", ("NoTool", 2)),
                            ("layer -1", ("BadNumber", -1)), ("layer 8", ("BadNumber", 8)), ("layer 999999999", ("BadNumber", 999999999)),
                            ("tool 0", (None, "done")), ("to 1 1 2", ("Askew", ((1, 1), (1, 1), (2, 1)))), ("to 2 0 2", (None, "done")),
                            ("to 2 0 1", ("Cuts", 0)), ("to 0 0 2", (None, "done")), ("to 0 0 0", (None, "done")), ("to 0 1/2 0", ("Meets", None)),
                            ("tool 1", ("NotOutside", ((0, 1), (0, 1), (0, 1))))):
            self.assertEqual(self.check(desk, bench, line), right, line)
        check_bench(self, desk.bench, bench)

    def test_the_very_bench(self):
        desk, bench = begun(TEXT)
        held = desk.bench
        self.assertIs(type(held), Bench)
        desk.say("tool 0")
        self.assertEqual(held.deeds, 1)
        held.do("to 0 0 1")
        self.assertEqual([desk.say("volume"), desk.say(line="place")], ["11", "0 0 1"])
        self.assertIs(desk.bench, held)
        self.assertIn("bench", vars(desk))

        def look(inner):
            self.assertIs(inner, desk.bench)
            desk.say("to 0 0 0")
            desk.say("undo")
            desk.say("undo")
            return desk.say("volume")

        self.assertEqual([held.tried(look), desk.say("volume")], ["12", "11"])
        self.assertEqual([held.tried(look, keep=True), desk.say("volume"), desk.say("redo"), desk.say("redo"), desk.say("volume")],
                         ["12", "12", "done", "done", "10"])

    def test_a_journal_with_deeds(self):
        chance = samples.some(173)
        for text in texts(174, 1)[:5]:
            bench, mine = new(text)
            for _ in range(20):
                some_deed(self, chance, bench, mine)
            desk = Desk(text=journal(bench))
            mine.undone = []
            check_bench(self, desk.bench, mine)
            for line in ("redo", "volume", "undo", "undo", "redo", "place", "tool", "layer 0"):
                self.check(desk, mine, line)


class Refused(unittest.TestCase):
    def test_lines_of_no_form(self):
        desk, bench = begun(TEXT)
        lines = [line for line in bent_lines() if line not in ("tool", "undo")]
        lines += ["Undo", "undo ", " undo", "undo 1", "redo ", "redo 0", "redoo", "volume ", "volume 0", "Volume", "tool ", "place ", "place 0 0 0", "left ",
                  "left 0", "fewest ", "fewest 0", "lefts", "few", "has", "has ", "has 0", "has 0 0", "has 0 0 0 0", "has 0 0  0", "has  0 0 0",
                  "has 0 0 0 ", "has 0,0,0", "layer", "layer ", "layer 01", "layer +1", "layer -0", "layer 1/1", "layer 1 1", "layer 1 ", "layer  1", "layer a",
                  "layer 0x1", "layer 1.0", "keep", "copy", "machine", "deeds", "drawing 1", "stock 0..1 0..1 0..1", "again 0 0 0", "do tool 0", "none", "done"]
        for word in ("+1", "01", "-0", "00", "2/2", "2/4", "1/1", "0/1", "0/3", "1/-2", "1/0", "-01/2", "1/02", "/2", "1/", "a", "", "1.5", "1/2/3", "--1"):
            lines += [f"has {word} 0 0", f"has 0 {word} 0", f"has 0 0 {word}"]
        lines += [line + "\n" for line in ASKED] + ["\n" + line for line in ASKED] + ["volume\nvolume", "rem\nrem", "rem a\n", "undo\nredo", "\n"]
        for begin in ("rem", "tool 0"):
            desk.say(begin)
            bench.do(begin)
            for line in lines:
                assert_refused(self, BadTask, line, desk.say, line)
                self.assertEqual(answer(bench, line) if "\n" not in line else ("BadTask", line), ("BadTask", line))
            for value in [value for value in strange()] + [["volume"], ("volume",), {"volume": 0}, desk, desk.bench, b"volume"]:
                assert_refused(self, BadTask, value, desk.say, value)
            check_bench(self, desk.bench, bench)

    def test_numbers_of_layers(self):
        desk, bench = begun(TEXT)
        for number in (-1, 8, 12, -999999999, 123456789):
            with self.assertRaises(BadNumber) as caught:
                desk.say(f"layer {number}")
            self.assertEqual(caught.exception.value, number)
        check_bench(self, desk.bench, bench)

    def test_journals(self):
        for value in [value for value in strange() if not isinstance(value, str)] + [Bench(TEXT), Lot(()), UNIT]:
            assert_refused(self, BadJournal, 0, Desk, value)
        for text, number in (("", 1), (TEXT, 1), ("drawing 7", 2), (f"drawing 7\n{TEXT}", 9), (f"drawing 7\n{TEXT}\ndeeds\nto 0 0 0", 10),
                             (f"drawing 7\n{TEXT}\ndeeds\ntool 0\nundo", 11), (f"drawing 6\n{TEXT}\ndeeds", 1), (f"drawing 8\n{TEXT}\ndeeds", 1)):
            assert_refused(self, BadJournal, number, Desk, text)
            assert_refused(self, BadJournal, number, Desk, text=text)


if __name__ == "__main__":
    unittest.main()
