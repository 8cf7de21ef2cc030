"""The tests' own bench: it does all lines of its deeds anew, each time that it is asked how it stands."""

from tests import own_drawing
from tests.own_mill import OwnMill


class OwnBench:
    def __init__(self, text):
        stock, part, tools = own_drawing.told(text)
        self.text = text
        self.first = OwnMill(part, stock, tools)
        self.done, self.undone = [], []
        self.known = {(): self.first}

    def mill(self):
        """An own machine behind all deeds that stand."""
        rows = tuple(self.done)
        if rows not in self.known:
            mill = self.first.copy()
            for line in rows:
                assert mill.do(line) is None, rows
            self.known[rows] = mill
        return self.known[rows].copy()

    def do(self, line):
        refused = self.mill().do(line)
        if refused is None:
            self.done, self.undone = self.done + [line], []
        return refused

    def undo(self):
        if not self.done:
            return ("NothingToUndo", None)
        self.undone = self.undone + self.done[-1:]
        self.done = self.done[:-1]
        return None

    def redo(self):
        if not self.undone:
            return ("NothingToRedo", None)
        self.done = self.done + self.undone[-1:]
        self.undone = self.undone[:-1]
        return None

    def state(self):
        return self.done, self.undone

    def go_back(self, state):
        self.done, self.undone = state

    def journal(self):
        rows = self.text.split("\n")
        return "\n".join([f"drawing {len(rows)}"] + rows + ["deeds"] + self.done)
