"""Drawings: texts that tell a STOCK, a PART and TOOLS."""

from allitreaches.boxes import box_text
from allitreaches.errors import BadDrawing, BadNumber, NoDrawing
from allitreaches.integers import is_integer
from allitreaches.kinds import check_part, check_stock, check_tools
from allitreaches.lots import check_lot, lot_of_boxes
from allitreaches.sketches import Sketch


class Drawing:
    """A STOCK, a PART and TOOLS, as a text tells them."""

    def __init__(self, text):
        if not isinstance(text, str):
            raise BadDrawing(0)
        sketch = Sketch()
        lines = text.split("\n")
        for number, line in enumerate(lines, start=1):
            if not sketch.take(line):
                raise BadDrawing(number)
        if not sketch.is_whole():
            raise BadDrawing(len(lines) + 1)
        self.text = text
        self.stock = sketch.stock
        self.part = sketch.part
        self.tools = sketch.tools

    def __eq__(self, other):
        return isinstance(other, Drawing) and self.text == other.text


def check_drawing(value):
    """Refuses what is no Drawing."""
    if not isinstance(value, Drawing):
        raise NoDrawing(value)


def _lines_of(word, boxes):
    return [word + " " + box_text(box) for box in boxes]


def drawing_text(stock, part, tools):
    """The text of the DRAWING that tells these, without `again`."""
    check_stock(stock)
    check_part(part)
    check_tools(tools)
    lines = _lines_of("stock", stock) + _lines_of("keep", part)
    for cutter, holder in tools:
        lines.extend(["tool"] + _lines_of("cut", cutter) + _lines_of("hold", holder))
    return "\n".join(lines)


def _mirrored_boxes(boxes, far):
    """The BOXES with far - x in place of each x."""
    return tuple([(far - x1, far - x0, y0, y1, z0, z1) for x0, x1, y0, y1, z0, z1 in boxes])


def mirrored(drawing):
    """The Drawing of the mirror image."""
    check_drawing(drawing)
    stock, part = _mirrored_boxes(drawing.stock, 8), _mirrored_boxes(drawing.part, 8)
    tools = tuple([(_mirrored_boxes(cutter, 0), _mirrored_boxes(holder, 0)) for cutter, holder in drawing.tools])
    return Drawing(drawing_text(stock, part, tools))


def _exchanged_boxes(boxes):
    """The BOXES with x and y exchanged."""
    return tuple([(y0, y1, x0, x1, z0, z1) for x0, x1, y0, y1, z0, z1 in boxes])


def exchanged(drawing):
    """The Drawing with x and y exchanged."""
    check_drawing(drawing)
    stock, part = _exchanged_boxes(drawing.stock), _exchanged_boxes(drawing.part)
    tools = tuple([(_exchanged_boxes(cutter), _exchanged_boxes(holder)) for cutter, holder in drawing.tools])
    return Drawing(drawing_text(stock, part, tools))


def _sign(kept, lot, cube):
    """The sign for the cube in whose middle this POINT lies."""
    if kept.has(cube):
        return "#"
    return "o" if lot.has(cube) else "."


def layer(drawing, lot, number):
    """What there is between z = number and the next one: eight strings, the greatest y first."""
    check_drawing(drawing)
    check_lot(lot)
    if not is_integer(number) or not 0 <= number <= 7:
        raise BadNumber(number)
    kept = lot_of_boxes(drawing.part)
    rows = [[((2 * x + 1, 2), (2 * y + 1, 2), (2 * number + 1, 2)) for x in range(8)] for y in range(7, -1, -1)]
    return tuple(["".join([_sign(kept, lot, cube) for cube in row]) for row in rows])
