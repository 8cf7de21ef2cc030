"""The errors: ReachError, and directly below it all others."""


class ReachError(ValueError):
    """What was asked cannot be told or done; value is what was refused."""

    def __init__(self, value):
        self.value = value


class BadPoint(ReachError):
    """A POINT, or the text of one, was asked for."""


class BadBox(ReachError):
    """A BOX, or the text of one, was asked for."""


class BadPart(ReachError):
    """A PART was asked for."""


class BadStock(ReachError):
    """A STOCK was asked for."""


class BadTool(ReachError):
    """A TOOL was asked for."""


class BadTools(ReachError):
    """TOOLS were asked for."""


class BadCell(ReachError):
    """A CELL was asked for."""


class BadCells(ReachError):
    """A tuple of CELLS that a Lot can have was asked for."""


class NoLot(ReachError):
    """A Lot was asked for."""


class NoScene(ReachError):
    """A Scene was asked for."""


class BadNumber(ReachError):
    """The number of a layer was asked for."""


class NotFree(ReachError):
    """The tool can't stand at this place."""


class BadRow(ReachError):
    """A ROW of turns was asked for."""


class BadProgram(ReachError):
    """The line with this number is none of a program."""


class BadLine(ReachError):
    """A line of a program was asked for."""


class NoMachine(ReachError):
    """A Machine was asked for."""


class Cuts(ReachError):
    """The cutter would cut into this BOX of the PART."""


class Meets(ReachError):
    """The holder would meet this BOX of the PART, or what stands."""


class NoTool(ReachError):
    """There is no tool with this number, or none in the machine."""


class NotOutside(ReachError):
    """The tool in the machine is at this place, not outside."""


class BadDrawing(ReachError):
    """The line with this number cannot stand there in a drawing."""


class NothingToUndo(ReachError):
    """No deed stands that could be taken back."""


class NothingToRedo(ReachError):
    """No deed was taken back that could be done again."""


class NoBlock(ReachError):
    """No trial is under way."""


class BadJournal(ReachError):
    """The line with this number cannot stand there in a journal."""


class BadTask(ReachError):
    """A line that a desk knows was asked for."""


class BadBoxes(ReachError):
    """A tuple of BOXES was asked for."""


class TooFar(ReachError):
    """A CELL would lie beyond those that a Lot can have."""


class NoDrawing(ReachError):
    """A Drawing was asked for."""


class NoFence(ReachError):
    """This way leads from the one place to the other."""


class BadPath(ReachError):
    """A PATH was asked for."""


class BadMoves(ReachError):
    """A tuple of MOVES was asked for."""


class Stopped(ReachError):
    """The machine refuses the line with this number."""


class Askew(ReachError):
    """The move to this place is not along one axis."""


class BadCorner(ReachError):
    """A tuple of three integers was asked for."""
