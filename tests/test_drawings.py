"""Drawings there and back, mirrored, exchanged, and their layers."""

import itertools
import unittest

from allitreaches.drawings import drawing_text, Drawing, exchanged, layer, mirrored
from allitreaches.lots import Lot, lot_of_boxes
from allitreaches.places import Scene
from tests import own, samples
from tests.own_drawing import plain_text, some_text, some_tuples, told
from tests.samples import BARE, UNIT
from tests.values import strange
from tests.wrong import CUBE

TEXT = "stock 0..4 0..3 0..2\nkeep 0..1 0..3 0..2\nagain 3 0 0\ntool\ncut -1..1 -1..1 0..1\nhold -2..2 -2..2 1..3\ntool\ncut 0..1 0..1 0..3"


def drawn(drawing):
    return (drawing.stock, drawing.part, drawing.tools)


def rows_of_drawings(seed, many):
    chance = samples.some(seed)
    rows = [some_tuples(chance) for _ in range(many)]
    return [(row, some_text(chance, *row)) for row in rows]


class ThereAndBack(unittest.TestCase):
    def check(self, row, text):
        drawing = Drawing(text)
        self.assertEqual(drawn(drawing), row, text)
        self.assertEqual(told(text), row)
        self.assertEqual(drawing.text, text)
        self.assertEqual(drawing_text(*row), plain_text(*row))
        self.assertEqual(drawn(Drawing(plain_text(*row))), row)

    def test_by_chance(self):
        again = 0
        for row, text in rows_of_drawings(121, 200):
            self.check(row, text)
            again += text.count("again")
        self.assertGreater(again, 200)

    def test_scenes_and_tools(self):
        tools = list(samples.TOOLS.values())
        for number, (part, stock) in enumerate(samples.SCENES.values()):
            row = (stock, part, tuple(tools[number:number + 4]) or (BARE,))
            self.check(row, plain_text(*row))

    def test_again_wherever_it_may_stand(self):
        box, aside = "0..1 0..1 0..1", "again 1 0 0"
        text = "\n".join([f"stock {box}", aside, aside, f"keep {box}"] + [aside] * 5 + ["tool", f"cut {box}", aside, aside, "hold -4..-3 0..1 0..1"]
                         + ["again 0 0 0", "again 1 0 0", "tool", "cut -4..4 -4..4 -4..4", "tool", f"cut {box}", "again -4 -4 -4", "tool", f"cut {box}",
                            "hold 0..1 0..1 1..2", "again 0 0 -2"])
        stock = tuple((x, x + 1, 0, 1, 0, 1) for x in range(3))
        part = tuple((x, x + 1, 0, 1, 0, 1) for x in range(6))
        tools = ((stock, ((-4, -3, 0, 1, 0, 1),) * 2 + ((-3, -2, 0, 1, 0, 1),)), (((-4, 4) * 3,), ()), ((CUBE, (-4, -3) * 3), ()),
                 ((CUBE,), ((0, 1, 0, 1, 1, 2), (0, 1, 0, 1, -1, 0))))
        self.check((stock, part, tools), text)

    def test_again_moves_what_the_line_ahead_told(self):
        drawing = Drawing("stock 0..2 0..2 0..2\nagain 1 2 3\nagain 1 0 -3\ntool\ncut 0..1 0..1 0..1")
        self.assertEqual(drawing.stock, ((0, 2, 0, 2, 0, 2), (1, 3, 2, 4, 3, 5), (2, 4, 2, 4, 0, 2)))

    def test_as_many_as_can_be(self):
        whole, free = (0, 8) * 3, (-4, 4) * 3
        for many in range(1, 5):
            tools = (((free,) * 3, ()),) * many
            self.check(((whole,) * 3, (whole,) * 6, tools), plain_text((whole,) * 3, (whole,) * 6, tools))

    def test_the_least(self):
        self.check((UNIT, (), (BARE,)), "stock 0..1 0..1 0..1\ntool\ncut 0..1 0..1 0..1")

    def test_kinds_of_what_is_told(self):
        drawing = Drawing(text=TEXT)
        self.assertEqual([type(value) for value in (drawing.text, *drawn(drawing), drawing.tools[0], drawing.tools[0][0], drawing.tools[0][0][0])],
                         [str] + [tuple] * 6)
        for name in ("text", "stock", "part", "tools"):
            self.assertIn(name, vars(drawing))
        self.assertIs(type(drawing_text(stock=drawing.stock, part=drawing.part, tools=drawing.tools)), str)


class Equal(unittest.TestCase):
    def test_just_if_their_texts_are(self):
        texts = [TEXT, plain_text(*told(TEXT)), TEXT + "\ntool\ncut 0..1 0..1 0..3"]
        texts += [text for _, text in rows_of_drawings(122, 10)]
        self.assertEqual(len(set(texts)), len(texts))
        for (at, one), (number, other) in itertools.product(enumerate(texts), repeat=2):
            self.assertIs(Drawing(one) == Drawing(other), at == number)
            self.assertIs(Drawing(one) != Drawing(other), at != number)

    def test_equal_to_nothing_else(self):
        drawing = Drawing(TEXT)
        for value in strange() + [TEXT, drawn(drawing), Scene(drawing.part, drawing.stock), Lot(()), [drawing], (drawing,)]:
            self.assertIs(drawing == value, False)
            self.assertIs(value == drawing, False)
            self.assertIs(drawing != value, True)
        for look in (lambda a, b: a < b, lambda a, b: a + b, lambda a, b: a | b):
            self.assertRaises(TypeError, look, drawing, drawing)


def by_x(box, far):
    return (far - box[1], far - box[0]) + box[2:]


def by_xy(box):
    return box[2:4] + box[:2] + box[4:]


def each_box(row, of_scene, of_tools):
    stock, part, tools = row
    return (tuple(map(of_scene, stock)), tuple(map(of_scene, part)),
            tuple((tuple(map(of_tools, cutter)), tuple(map(of_tools, holder))) for cutter, holder in tools))


class Turned(unittest.TestCase):
    def test_mirrored(self):
        for row, text in rows_of_drawings(123, 60):
            right = each_box(row, lambda box: by_x(box, 8), lambda box: by_x(box, 0))
            image = mirrored(Drawing(text))
            self.assertIs(type(image), Drawing)
            self.assertEqual(drawn(image), right)
            self.assertEqual(image.text, plain_text(*right))
            self.assertEqual(mirrored(image), Drawing(plain_text(*row)))

    def test_exchanged(self):
        for row, text in rows_of_drawings(124, 60):
            right = each_box(row, by_xy, by_xy)
            image = exchanged(drawing=Drawing(text))
            self.assertIs(type(image), Drawing)
            self.assertEqual(drawn(image), right)
            self.assertEqual(image.text, plain_text(*right))
            self.assertEqual(exchanged(image), Drawing(plain_text(*row)))

    def test_both(self):
        for row, text in rows_of_drawings(125, 20):
            image = Drawing(text)
            for look in (mirrored, exchanged) * 4:
                image = look(image)
            self.assertEqual(image, Drawing(plain_text(*row)))


def lot_of_stock(drawing):
    return lot_of_boxes(drawing.stock)


class Layers(unittest.TestCase):
    def check(self, drawing, lot):
        for number in range(8):
            rows = []
            for y in range(7, -1, -1):
                signs = ""
                for x in range(8):
                    middle = tuple(by + own.Fraction(1, 2) for by in (x, y, number))
                    kept = any(own.lies_in(box, middle) for box in drawing.part)
                    signs += "#" if kept else "o" if own.cell_at(middle) in lot.cells else "."
                rows.append(signs)
            told_rows = layer(drawing, lot, number)
            self.assertEqual(told_rows, tuple(rows))
            self.assertIs(type(told_rows), tuple)

    def test_sign_by_sign(self):
        chance = samples.some(126)
        for row, text in rows_of_drawings(127, 12):
            drawing = Drawing(text)
            self.check(drawing, lot_of_boxes(row[0]))
            self.check(drawing, Lot(samples.some_cells(chance, 300, 0, 16)))
        self.check(Drawing(TEXT), Lot(()))
        self.check(Drawing(TEXT), lot_of_boxes(((-2, 9, -2, 9, -2, 9),)))

    def test_only_cubes_tell(self):
        flat = Lot(tuple(cell for cell in lot_of_boxes(((0, 8) * 3,)).cells if 0 in [index % 2 for index in cell]))
        self.assertEqual(layer(Drawing(TEXT), flat, 7), ("........",) * 8)
        self.assertEqual(layer(Drawing(TEXT), Lot(((15, 15, 15), (1, 15, 15))), number=7), ("o......o",) + ("........",) * 7)

    def test_by_hand(self):
        drawing = Drawing(TEXT)
        self.assertEqual(layer(drawing, lot_of_stock(drawing), 0), ("........",) * 5 + ("#oo#....",) * 3)
        self.assertEqual(layer(drawing, lot_of_stock(drawing), 2), ("........",) * 8)


if __name__ == "__main__":
    unittest.main()
