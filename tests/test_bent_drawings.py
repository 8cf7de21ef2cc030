"""Drawings that are refused, by the first line that cannot stand there, and what drawings refuse."""

import unittest

from allitreaches.drawings import drawing_text, Drawing, exchanged, layer, mirrored
from allitreaches.errors import BadDrawing, BadNumber, BadPart, BadStock, BadTools, NoDrawing, NoLot
from allitreaches.lots import Lot, lot_of_boxes
from tests import samples
from tests.own_drawing import some_text, some_tuples, told
from tests.samples import BARE, UNIT, WIDE
from tests.values import assert_refused, strange
from tests.wrong import bent_drawings, bent_lots, bent_parts, bent_stocks, bent_toolss, check_refusals

BOX = "0..1 0..1 0..1"
STOCK, KEEP, CUT, HOLD = "stock " + BOX, "keep " + BOX, "cut " + BOX, "hold 0..1 0..1 1..2"
GOOD = [STOCK, KEEP, "tool", CUT, HOLD, "tool", CUT]

WORDS = ["stock", "keep", "tool", "cut", "hold", "again", "", "x", "0..1", "1..0", "0..0", "-1..1", "0..9", "7..9", "-5..4", "4..5", "0..01", "+0..1",
         "0 1", "0...1", "0..", "0", "1", "-0", "3", "01", "0-1", "Stock", "tool "]


class ByChance(unittest.TestCase):
    def bent(self, chance, rows):
        """The lines with some of them out, twice, exchanged, put in, a word otherwise."""
        rows = list(rows)
        for _ in range(chance.choice((1, 1, 1, 2))):
            at, to, dice = chance.randrange(len(rows)), chance.randrange(len(rows)), chance.randrange(7)
            words = rows[at].split(" ")
            if dice == 0:
                rows[at:at + 1] = [] if len(rows) > 1 else [""]
            elif dice == 1:
                rows.insert(to, rows[at])
            elif dice == 2:
                rows[at], rows[to] = rows[to], rows[at]
            elif dice == 3:
                rows.insert(to, chance.choice(GOOD + ["again 0 0 0", "again 1 0 0", "again -1 0 2", "", "rem", "tool 0", BOX]))
            elif dice == 4:
                words[chance.randrange(len(words))] = chance.choice(WORDS)
                rows[at] = " ".join(words)
            elif dice == 5:
                words.insert(chance.randint(0, len(words)), chance.choice(WORDS))
                rows[at] = " ".join(words)
            else:
                rows = rows[:to + 1]
        return "\n".join(rows)

    def test_against_own_reading(self):
        chance = samples.some(131)
        numbers = []
        for _ in range(2500):
            text = self.bent(chance, some_text(chance, *some_tuples(chance)).split("\n"))
            right = told(text)
            if isinstance(right, int):
                with self.assertRaises(BadDrawing, msg=text) as caught:
                    Drawing(text)
                self.assertEqual(caught.exception.value, right, text)
                self.assertIs(type(caught.exception.value), int)
                numbers.append(right - text.count("\n") - 1)
            else:
                drawing = Drawing(text)
                self.assertEqual((drawing.stock, drawing.part, drawing.tools), right, text)
        self.assertGreater(len(numbers), 1000)
        self.assertGreater(numbers.count(1), 50)
        self.assertGreater(numbers.count(0), 50)


class ByHand(unittest.TestCase):
    def check(self, rows, number):
        """That this line is the first that cannot stand there, also in the tests' own reading."""
        text = "\n".join(rows)
        self.assertEqual(told(text), number, text)
        assert_refused(self, BadDrawing, number, Drawing, text)

    def test_texts_that_end_too_early(self):
        for rows in ([STOCK], [STOCK, KEEP], [STOCK, "tool"], [STOCK, "again 1 0 0"], GOOD[:6], [STOCK] * 3 + [KEEP] * 6):
            self.check(rows, len(rows) + 1)
        # The text without signs has one line, which has none of the forms.
        self.check([""], 1)
        self.check(["", ""], 1)
        self.check([STOCK, ""], 2)
        self.check(GOOD + [""], 8)

    def test_lines_in_the_wrong_place(self):
        for rows, number in (([KEEP], 1), (["tool"], 1), ([CUT], 1), ([HOLD], 1), (["again 0 0 0"], 1), ([STOCK, CUT], 2), ([STOCK, HOLD], 2),
                             ([STOCK, KEEP, STOCK], 3), ([STOCK, KEEP, CUT], 3), ([STOCK, KEEP, HOLD], 3), ([STOCK, "tool", HOLD], 3),
                             ([STOCK, "tool", "tool"], 3), ([STOCK, "tool", STOCK], 3), ([STOCK, "tool", KEEP], 3), ([STOCK, "tool", "again 0 0 0"], 3),
                             ([STOCK, "tool", CUT, KEEP], 4), ([STOCK, "tool", CUT, STOCK], 4), ([STOCK, "tool", CUT, HOLD, CUT], 5),
                             ([STOCK, "tool", CUT, HOLD, KEEP], 5), ([STOCK, "tool", CUT, "tool", HOLD], 5), ([STOCK, "tool", CUT, "tool", "tool"], 5),
                             ([STOCK, "tool", CUT, "tool", "again 0 0 0"], 5), ([STOCK, "tool", CUT, HOLD, STOCK], 5)):
            self.check(rows, number)
            self.check(rows + GOOD, number)

    def test_one_too_many(self):
        for kind, many, ahead in ((STOCK, 3, []), (KEEP, 6, [STOCK]), (CUT, 3, [STOCK, "tool"]), (HOLD, 3, [STOCK, "tool", CUT])):
            for more in (kind, "again 0 0 0"):
                for at in range(1, many + 1):
                    rows = ahead + [kind] * at + [more] * (many + 1 - at)
                    self.check(rows, len(ahead) + many + 1)
        self.check([STOCK] + ["tool", CUT] * 4 + ["tool"], 10)
        self.check([STOCK] + ["tool", CUT] * 5, 10)
        self.assertEqual(len(Drawing("\n".join([STOCK] + ["tool", CUT] * 4)).tools), 4)

    def test_numbers_that_cannot_be_there(self):
        for axis in range(3):
            for kind, low, high, ahead in (("stock", 0, 8, []), ("keep", 0, 8, [STOCK]), ("cut", -4, 4, [STOCK, "tool"]),
                                           ("hold", -4, 4, [STOCK, "tool", "cut -4..-3 -4..-3 -4..-3"])):
                for near, far in ((low - 1, low + 1), (high - 1, high + 1), (high, high + 1), (low - 2, low - 1), (1, 1), (2, 1), (low, 999999999)):
                    spans = ["0..1"] * 3
                    spans[axis] = f"{near}..{far}"
                    self.check(ahead + [kind + " " + " ".join(spans)], len(ahead) + 1)
                by = ["0"] * 3
                for more in (high, -1 - abs(low), 999999999, -999999999):
                    by[axis] = str(more)
                    self.check(ahead + [f"{kind} {BOX}", "again " + " ".join(by)], len(ahead) + 2)
                    self.check(ahead + [f"{kind} {BOX}", "again 0 0 0", "again " + " ".join(by)], len(ahead) + 3)

    def test_spots_within_cutter_and_holder(self):
        begun = [STOCK, "tool", "cut 0..1 0..1 0..2"]
        self.check(begun + ["hold 0..1 0..1 1..2"], 4)
        self.check(begun + ["hold 0..1 0..1 2..3", "hold -1..1 -1..1 -1..1"], 5)
        self.check(begun + ["hold 0..1 0..1 2..3", "again 0 0 -1"], 5)
        self.check(begun + ["again 0 0 1", "hold 0..1 0..1 3..4", "again 0 0 -1"], 6)
        self.check(begun + ["cut 3..4 3..4 3..4", "hold -4..4 -4..4 2..4"], 5)
        # Those of the tool ahead don't count, and to touch is let.
        rows = begun + ["tool", "cut 0..1 0..1 3..4", "hold 0..1 0..1 0..2", "again 0 0 1", "hold 1..2 1..2 3..4"]
        self.assertEqual(Drawing("\n".join(rows)).tools[1], (((0, 1, 0, 1, 3, 4),), ((0, 1, 0, 1, 0, 2), (0, 1, 0, 1, 1, 3), (1, 2, 1, 2, 3, 4))))

    def test_words_otherwise(self):
        for line in ("", " ", "tool ", " tool", "tool 0", "tool 0..1 0..1 0..1", "Tool", "tools", "cut", "cut ", "cut 0..1 0..1", CUT + " ", " " + CUT,
                     CUT + " 0..1", "cut  0..1 0..1 0..1", "cut 0..1  0..1 0..1", "cut 0..1 0..1 0..+1", "cut 0..1 0..1 00..1", "cut -0..1 0..1 0..1",
                     "cut 0...1 0..1 0..1", "cut 0..1,0..1,0..1", "cut 0 1 0 1 0 1", "cut 0.5..1 0..1 0..1", "Cut 0..1 0..1 0..1", "again", "again 0 0",
                     "again 0 0 0 0", "again 0 0  0", "again 0 0 0 ", "again +0 0 0", "again 00 0 0", "again -0 0 0", "again 1/1 0 0", "again 0..1 0 0",
                     "again a b c", "Again 0 0 0", "rem", "to 0 0 0", BOX, "deeds", "drawing 3"):
            for ahead in ([STOCK, "tool", CUT], [STOCK, "tool", CUT, HOLD], [STOCK], [STOCK, KEEP, "again 0 0 0"]):
                self.check(ahead + [line], len(ahead) + 1)
                self.check(ahead + [line, "tool", CUT], len(ahead) + 1)

    def test_what_is_no_string(self):
        drawing = Drawing("\n".join(GOOD))
        for value in [value for value in strange() if not isinstance(value, str)] + [GOOD, tuple(GOOD), drawing, Lot(()), UNIT]:
            assert_refused(self, BadDrawing, 0, Drawing, value)
            assert_refused(self, BadDrawing, 0, Drawing, text=value)
        for value in [value for value in strange() if isinstance(value, str)]:
            assert_refused(self, BadDrawing, 1, Drawing, value)


class Refused(unittest.TestCase):
    def test_texts(self):
        check_refusals(self, drawing_text, [("stock", UNIT, BadStock, bent_stocks()), ("part", UNIT, BadPart, bent_parts()),
                                            ("tools", (BARE, WIDE), BadTools, bent_toolss())])

    def test_drawings(self):
        drawing = Drawing("\n".join(GOOD))
        for look in (mirrored, exchanged):
            check_refusals(self, look, [("drawing", drawing, NoDrawing, bent_drawings())])

    def test_layers(self):
        drawing, lot = Drawing("\n".join(GOOD)), lot_of_boxes(UNIT)
        numbers = [value for value in strange() if value is True or value is False or value not in (0, 1)]
        numbers += [True, False, -1, 8, 9, 10 ** 8, -10 ** 8, "0", "7", (0,), [0], (0, 1), None, drawing, lot, {0: 0}]
        check_refusals(self, layer, [("drawing", drawing, NoDrawing, bent_drawings()), ("lot", lot, NoLot, bent_lots()),
                                     ("number", 0, BadNumber, numbers)])
        self.assertEqual([len(layer(drawing, lot, number)) for number in range(8)], [8] * 8)


if __name__ == "__main__":
    unittest.main()
