"""The tests' own reading of drawings, and drawings by chance."""

import re

from tests import own, samples

WHOLE = "(0|-?[1-9][0-9]*)"
BOX = re.compile(f"(stock|keep|cut|hold) {WHOLE}\\.\\.{WHOLE} {WHOLE}\\.\\.{WHOLE} {WHOLE}\\.\\.{WHOLE}")
AGAIN = re.compile(f"again {WHOLE} {WHOLE} {WHOLE}")
# The kinds of lines, by their first signs, as far as a drawing that goes on may have them.
BEGUN = re.compile("(s{1,3}(k{0,6}(tc{1,3}h{0,3}){0,3}(t(c{1,3}h{0,3})?)?)?)?")
WHOLE_ONE = re.compile("s{1,3}k{0,6}(tc{1,3}h{0,3}){1,4}")
BOUNDS = {"s": (0, 8), "k": (0, 8), "c": (-4, 4), "h": (-4, 4)}


def read_line(line, rows):
    """The (kind, BOX) of a line behind these rows; None if it has no form."""
    if line == "tool":
        return ("t", None)
    if match := BOX.fullmatch(line):
        return (match[1][0], tuple(map(int, match.groups()[1:])))
    match = AGAIN.fullmatch(line)
    if match and rows and rows[-1][1]:
        kind, box = rows[-1]
        return (kind, tuple(number + int(match[1 + at // 2]) for at, number in enumerate(box)))
    return None


def may_stand(rows):
    """Whether the last of these rows may stand behind the others."""
    kind, box = rows[-1]
    if not BEGUN.fullmatch("".join(word for word, _ in rows)):
        return False
    if kind == "t":
        return True
    low, high = BOUNDS[kind]
    if not all(low <= near < far <= high for near, far in own.axes(box)):
        return False
    if kind != "h":
        return True
    begun = max(at for at, (word, _) in enumerate(rows) if word == "t")
    return not any(all(max(a, c) < min(b, d) for (a, b), (c, d) in zip(own.axes(box), own.axes(other)))
                   for word, other in rows[begun + 1:] if word == "c")


def told(text):
    """The STOCK, the PART and the TOOLS of a drawing, or the number of the first line that cannot stand there."""
    rows = []
    for number, line in enumerate(text.split("\n"), 1):
        row = read_line(line, rows)
        if row is None or not may_stand(rows + [row]):
            return number
        rows.append(row)
    if not WHOLE_ONE.fullmatch("".join(kind for kind, _ in rows)):
        return len(rows) + 1
    tools = []
    for kind, box in rows:
        if kind == "t":
            tools.append(([], []))
        elif kind in "ch":
            tools[-1]["ch".index(kind)].append(box)
    return (tuple(box for kind, box in rows if kind == "s"), tuple(box for kind, box in rows if kind == "k"),
            tuple((tuple(cutter), tuple(holder)) for cutter, holder in tools))


def box_line(word, box):
    return word + "".join(f" {low}..{high}" for low, high in own.axes(box))


def lines_of(word, boxes, chance):
    """Lines of BOXES, some of them by `again`."""
    rows = []
    for at, box in enumerate(boxes):
        by = [high - low for low, high in zip(boxes[at - 1], box)][::2]
        if at and tuple(number + by[axis // 2] for axis, number in enumerate(boxes[at - 1])) == box and chance.random() < 0.8:
            rows.append("again {} {} {}".format(*by))
        else:
            rows.append(box_line(word, box))
    return rows


def with_moved(chance, boxes, low, high, most):
    """The BOXES, and some more, moved as far as they may be."""
    boxes = list(boxes)
    while len(boxes) < most and chance.random() < 0.6:
        by = [chance.randint(low - near, high - far) for near, far in own.axes(boxes[-1])] if boxes else None
        boxes.append(samples.some_box(chance, low, high, 3) if by is None
                     else tuple(number + by[at // 2] for at, number in enumerate(boxes[-1])))
    return tuple(boxes)


def some_tuples(chance):
    """A STOCK, a PART and TOOLS by chance, with many BOXES that are moved ones."""
    stock = with_moved(chance, (samples.some_box(chance, 0, 8, 8),), 0, 8, 3)
    part = with_moved(chance, (), 0, 8, 6)
    tools = []
    for _ in range(chance.randint(1, 4)):
        cutter, holder = samples.some_tool(chance, chance.choice((1, 2, 4)))
        tools.append((with_moved(chance, cutter, -4, 4, 3), holder) if not holder else (cutter, holder))
    return stock, part, tuple(tools)


def some_text(chance, stock, part, tools):
    """A drawing's text that tells these."""
    rows = lines_of("stock", stock, chance) + lines_of("keep", part, chance)
    for cutter, holder in tools:
        rows += ["tool"] + lines_of("cut", cutter, chance) + lines_of("hold", holder, chance)
    return "\n".join(rows)


def plain_text(stock, part, tools):
    """The drawing's text without `again`."""
    rows = [box_line("stock", box) for box in stock] + [box_line("keep", box) for box in part]
    for cutter, holder in tools:
        rows += ["tool"] + [box_line("cut", box) for box in cutter] + [box_line("hold", box) for box in holder]
    return "\n".join(rows)
