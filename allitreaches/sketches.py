"""What the lines of a drawing tell, one behind the other."""

from allitreaches.boxes import box_told, corner_told, moved
from allitreaches.kinds import is_part, is_stock, is_tool

# The kinds of lines that may stand behind one of each kind, and ahead of all.
_NEXT = {
    "": ("stock",),
    "stock": ("stock", "keep", "tool"),
    "keep": ("keep", "tool"),
    "tool": ("cut",),
    "cut": ("cut", "hold", "tool"),
    "hold": ("hold", "tool"),
}


class Sketch:
    """The STOCK, the PART and the TOOLS, as far as the lines up to now tell them."""

    def __init__(self):
        self.stock = ()
        self.part = ()
        self.tools = ()
        self._kind = ""
        self._box = None

    def _read(self, line):
        """The kind of a line, None if it has none, and the BOX that it tells, None if it tells none."""
        word, _, words = line.partition(" ")
        if line == "tool":
            return ("tool", None)
        if word in ("stock", "keep", "cut", "hold"):
            return (word, box_told(words))
        corner = corner_told(words)
        if word == "again" and self._box is not None and corner is not None:
            return (self._kind, moved(self._box, corner))
        return (None, None)

    def _add_to_tool(self, kind, box):
        cutter, holder = self.tools[-1]
        if kind == "cut":
            tool = (cutter + (box,), holder)
        else:
            tool = (cutter, holder + (box,))
        self.tools = self.tools[:-1] + (tool,)
        return is_tool(tool)

    def _add(self, kind, box):
        """Adds what a line tells that may stand here by its kind; whether there may be so much."""
        if kind == "tool":
            self.tools = self.tools + (((), ()),)
            return len(self.tools) <= 4
        if box is None:
            return False
        if kind == "stock":
            self.stock = self.stock + (box,)
            return is_stock(self.stock)
        if kind == "keep":
            self.part = self.part + (box,)
            return is_part(self.part)
        return self._add_to_tool(kind, box)

    def take(self, line):
        """Goes on by one line; whether it may stand here."""
        kind, box = self._read(line)
        if kind not in _NEXT[self._kind]:
            return False
        self._kind, self._box = kind, box
        return self._add(kind, box)

    def is_whole(self):
        """Whether the lines may end here."""
        return self._kind in ("cut", "hold")
