"""The machine: it does programs line by line, and refuses what must not be."""

from allitreaches.cells import cell_of
from allitreaches.errors import Askew, BadLine, Cuts, Meets, NoTool, NotOutside, Stopped
from allitreaches.halves import Milling, doubled, halved_cells
from allitreaches.kinds import check_part, check_stock, check_tools
from allitreaches.lines import differ_on_one_axis
from allitreaches.lots import Lot, check_lot
from allitreaches.points import check_point
from allitreaches.programs import move_told, read_program
from allitreaches.ratios import ratio


def halved(lot):
    """The Lot of the cells of halves in which the spots of this one lie."""
    check_lot(lot)
    return Lot(tuple([half for cell in lot.cells for half in halved_cells(cell)]))


class Machine:
    """A STOCK with a PART in it, and TOOLS that come in one after the other.

    What stands is told by the bits of cells of halves, which are the same for all TOOLS.
    """

    def __init__(self, part, stock, tools):
        check_part(part)
        check_stock(stock)
        check_tools(tools)
        self.part = part
        self.stock = stock
        self.tools = tools
        self.tool = None
        self.place = None
        self.turns = ()
        self._millings = [Milling(part, stock, tool) for tool in tools]
        self._stands = self._millings[0].first()

    def _told(self):
        """All in which machines are alike or not."""
        return (self.part, self.stock, self.tools, self.tool, self.place, self.turns, self._stands)

    def __eq__(self, other):
        return isinstance(other, Machine) and self._told() == other._told()

    def _stand_as(self, other):
        """Becomes as another machine with the same PART, STOCK and TOOLS is."""
        self.tool = other.tool
        self.place = other.place
        self.turns = other.turns
        self._stands = other._stands
        # These never change, but for what they keep so as not to reckon it twice.
        self._millings = other._millings

    def copy(self):
        """An independent machine, alike in all things."""
        other = Machine(self.part, self.stock, self.tools)
        other._stand_as(self)
        return other

    def _bring_in(self, number):
        if self.tool is not None and not self._millings[self.tool].is_outside(self.place):
            raise NotOutside(self.place)
        if number >= len(self.tools):
            raise NoTool(number)
        self.tool = number
        self.place = self._millings[number].beginning()
        self.turns = self.turns + (number,)

    def _go(self, place):
        if self.tool is None:
            raise NoTool(None)
        if not differ_on_one_axis(self.place, place):
            raise Askew(place)
        milling = self._millings[self.tool]
        self._stands = milling.left(self._stands, doubled(self.place), doubled(place))
        self.place = place

    def _move(self, move):
        """Does a MOVE, or refuses it and stays as it is."""
        word, what = move
        if word == "tool":
            self._bring_in(what)
        elif word == "to":
            self._go(what)

    def do(self, line):
        """Does one line of a program."""
        move = move_told(line) if isinstance(line, str) else None
        if move is None:
            raise BadLine(line)
        self._move(move)

    def run(self, program):
        """Does all lines of a program, or none."""
        trial = self.copy()
        for number, move in enumerate(read_program(program), start=1):
            try:
                trial._move(move)
            except (NotOutside, NoTool, Askew, Cuts, Meets):
                raise Stopped(number) from None
        self._stand_as(trial)

    def has(self, point):
        """Whether this spot stands."""
        check_point(point)
        cell = cell_of(tuple([ratio(2 * top, bottom) for top, bottom in point]))
        spots = self._millings[0].grid.between([(index, index) for index in cell])
        return bool(self._stands & spots)

    def lot(self):
        """The Lot of the cells of halves of all spots that stand."""
        return Lot(tuple(self._millings[0].grid.cells_of(self._stands)))

    def volume(self):
        """How much fills what stands, a FRACTION."""
        return ratio(self._millings[0].eighths_of(self._stands), 8)
