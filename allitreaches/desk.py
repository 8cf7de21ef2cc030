"""A desk: a bench to which one speaks by lines."""

from allitreaches.cells import is_cube
from allitreaches.drawings import layer
from allitreaches.errors import BadTask
from allitreaches.integers import integer_text, read_integer
from allitreaches.journals import read_journal
from allitreaches.lots import Lot
from allitreaches.places import Scene
from allitreaches.points import fraction_text, point_text, point_told
from allitreaches.programs import move_told
from allitreaches.rounds import fewest, least


def _undo(bench):
    bench.undo()
    return "done"


def _redo(bench):
    bench.redo()
    return "done"


def _volume(bench):
    machine = bench.machine()
    return fraction_text(machine.volume())


def _tool(bench):
    machine = bench.machine()
    return "none" if machine.tool is None else integer_text(machine.tool)


def _place(bench):
    machine = bench.machine()
    return "none" if machine.place is None else point_text(machine.place)


def _scene(bench):
    return Scene(bench.drawing.part, bench.drawing.stock)


def _left(bench):
    return integer_text(least(_scene(bench), bench.drawing.tools).cubes)


def _fewest(bench):
    row = fewest(_scene(bench), bench.drawing.tools)
    return " ".join([integer_text(number) for number in row]) if row else "none"


_ANSWERS = {
    "undo": _undo,
    "redo": _redo,
    "volume": _volume,
    "tool": _tool,
    "place": _place,
    "left": _left,
    "fewest": _fewest,
}


def _whole_cubes(halves):
    """The Lot of the cubes that stand as a whole, where these cells of halves do."""
    eighths = {}
    for cell in halves.cells:
        if is_cube(cell):
            cube = tuple([2 * (index // 4) + 1 for index in cell])
            eighths[cube] = eighths.get(cube, 0) + 1
    return Lot(tuple([cube for cube, many in eighths.items() if many == 8]))


def _has(bench, point):
    machine = bench.machine()
    return "yes" if machine.has(point) else "no"


def _layer(bench, number):
    machine = bench.machine()
    return " ".join(layer(bench.drawing, _whole_cubes(machine.lot()), number))


class Desk:
    """The Bench of a journal, and answers to lines."""

    def __init__(self, text):
        self.bench = read_journal(text)

    def _asked(self, line):
        """The answer to a line with which something is asked; None if it has none of the forms."""
        word, _, words = line.partition(" ")
        point, number = point_told(words), read_integer(words)
        if word == "has" and point is not None:
            return _has(self.bench, point)
        if word == "layer" and number is not None:
            return _layer(self.bench, number)
        return None

    def say(self, line):
        """Does what the line says, or answers what it asks."""
        if not isinstance(line, str):
            raise BadTask(line)
        if move_told(line) is not None:
            self.bench.do(line)
            return "done"
        answer = _ANSWERS.get(line)
        told = self._asked(line) if answer is None else answer(self.bench)
        if told is None:
            raise BadTask(line)
        return told
