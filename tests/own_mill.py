"""The tests' own machine with its tools: it does lines of programs moment by moment.

As in own_machine, all is told eight times as large, and a cell of halves by one of its spots.
"""

import functools
import re
from fractions import Fraction

from tests import own
from tests.own_machine import spots_of, within

WHOLE = "(?:0|-?[1-9][0-9]*)"
HALVES = f"({WHOLE}|-?(?:[1-9][0-9]*)?[13579]/2)"
TOOL = re.compile("tool (0|[1-9][0-9]*)")
TO = re.compile(f"to {HALVES} {HALVES} {HALVES}")
REM = re.compile("rem(?: ([ -~]*))?")


def told(line):
    """The MOVE of a line, None for one of no form."""
    if match := TOOL.fullmatch(line):
        return ("tool", int(match[1]))
    if match := TO.fullmatch(line):
        return ("to", own.point_of(map(Fraction, match.groups())))
    if match := REM.fullmatch(line):
        return ("rem", match[1] or "")
    return None


def half_of(spot):
    """The cell of halves of a spot, all of whose numbers are quarters."""
    return tuple(2 * (number // 4) + (number % 4 != 0) for number in spot)


@functools.lru_cache(maxsize=None)
def all_of(stock):
    """The spots of all that stands at first."""
    return frozenset(spots_of(own.cells_in(stock)))


class OwnMill:
    def __init__(self, part, stock, tools):
        self.part, self.stock, self.tools = part, stock, tools
        self.left = all_of(stock)
        self.tool = self.place = None
        self.turns = ()

    def copy(self):
        other = OwnMill.__new__(OwnMill)
        vars(other).update(vars(self))
        return other

    def point(self):
        return None if self.place is None else own.point_of(Fraction(number, 8) for number in self.place)

    def volume(self):
        return Fraction(sum(all(number % 4 == 2 for number in spot) for spot in self.left), 8).as_integer_ratio()

    def halves(self):
        """The cells of halves of all that stands."""
        return {half_of(spot) for spot in self.left}

    def has(self, row):
        """Whether the spot with these numbers stands."""
        return own.cell_at([2 * number for number in row]) in self.halves()

    def lowest(self):
        return own.lowest_outside(self.part, self.stock, self.tools[self.tool])

    def do(self, line):
        """None if the line is done, otherwise the name of the error and its value."""
        move = told(line) if isinstance(line, str) else None
        if move is None:
            return ("BadLine", line)
        word, what = move
        return {"tool": self.bring, "to": self.go, "rem": lambda what: None}[word](what)

    def bring(self, number):
        if self.tool is not None and self.place[2] < 8 * self.lowest():
            return ("NotOutside", self.point())
        if number >= len(self.tools):
            return ("NoTool", number)
        self.tool = number
        self.place = (0, 0, 8 * self.lowest())
        self.turns += (number,)
        return None

    def go(self, point):
        if self.tool is None:
            return ("NoTool", None)
        goal = tuple(8 * top // bottom for top, bottom in point)
        if sum(a != b for a, b in zip(self.place, goal)) > 1:
            return ("Askew", point)
        length = sum(abs(a - b) for a, b in zip(self.place, goal))
        places = [tuple(a + (moment if b > a else -moment if b < a else 0) for a, b in zip(self.place, goal))
                  for moment in range(length + 1)]
        refused, left = self.moments(places)
        if refused is None:
            self.place, self.left = goal, left
        return refused

    def moments(self, places):
        """What refuses it, or None, and what stands behind it."""
        cutter, holder = self.tools[self.tool]
        cut, met, stood, left = set(), set(), False, set(self.left)
        for place in places:
            row = [Fraction(number, 8) for number in place]
            for a, kept in enumerate(self.part):
                if any(own.with_box(box, row, kept) for box in cutter):
                    cut.add(a)
                if any(own.with_box(box, row, kept) for box in holder):
                    met.add(a)
            for box in cutter:
                left.difference_update(within(box, place))
            stood = stood or any(spot in left for box in holder for spot in within(box, place))
        if cut:
            return ("Cuts", min(cut)), None
        if met or stood:
            return ("Meets", min(met, default=None)), None
        return None, frozenset(left)

    def run(self, lines):
        """None if all lines are done, otherwise the number of the first that isn't; then none is."""
        trial = self.copy()
        for number, line in enumerate(lines, 1):
            if trial.do(line) is not None:
                return number
        vars(self).update(vars(trial))
        return None
