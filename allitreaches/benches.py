"""A bench: a MACHINE under hands, whose lines can be taken back and tried."""

from allitreaches.drawings import Drawing
from allitreaches.errors import NoBlock, NothingToRedo, NothingToUndo
from allitreaches.machine import Machine


class Bench:
    """A MACHINE of a DRAWING, and what was done to it.

    A deed is told by its line and by the MACHINE as it stands behind it. Such a
    MACHINE never changes: so to take a deed back, or a trial, nothing is undone
    but the rows of deeds.
    """

    def __init__(self, text):
        self.drawing = Drawing(text)
        self._first = Machine(self.drawing.part, self.drawing.stock, self.drawing.tools)
        self._done = ()
        self._undone = ()
        # None outside of all trials; in one, whether keep was called.
        self._kept = None

    @property
    def deeds(self):
        """How many deeds stand."""
        return len(self._done)

    def lines(self):
        """The lines of all deeds that stand, in sequence."""
        return [line for line, _ in self._done]

    def _now(self):
        """The MACHINE as it stands, which is not to be changed."""
        return self._done[-1][1] if self._done else self._first

    def __eq__(self, other):
        return isinstance(other, Bench) and self.drawing == other.drawing and self.lines() == other.lines()

    def __len__(self):
        return len(self._now().turns)

    def machine(self):
        """A MACHINE that stands as the bench's does, by itself."""
        return self._now().copy()

    def copy(self):
        """An independent bench, alike in all things, outside of all trials."""
        other = Bench(self.drawing.text)
        other._done = self._done
        other._undone = self._undone
        return other

    def do(self, line):
        """Does one line of a program."""
        machine = self.machine()
        machine.do(line)
        self._done = self._done + ((line, machine),)
        self._undone = ()

    def undo(self):
        """Takes the last deed back that stands."""
        if not self._done:
            raise NothingToUndo(None)
        self._undone = self._undone + self._done[-1:]
        self._done = self._done[:-1]

    def redo(self):
        """Does the deed again that was taken back last."""
        if not self._undone:
            raise NothingToRedo(None)
        self._done = self._done + self._undone[-1:]
        self._undone = self._undone[:-1]

    def keep(self):
        """Has the innermost trial leave all as it is behind it."""
        if self._kept is None:
            raise NoBlock(None)
        self._kept = True

    def tried(self, look, *, keep=False):
        """What look returns for the bench; behind it all is as ahead of it, unless that is to be kept."""
        outer, done, undone = self._kept, self._done, self._undone
        stays = None
        self._kept = False
        try:
            told = look(self)
            if keep is True or self._kept:
                stays = True
        finally:
            self._kept = outer
            if stays is None:
                self._done = done
                self._undone = undone
        return told
