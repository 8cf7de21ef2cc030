"""The tests' own turns in a row, and the fewest of them, by going through all rows."""

import functools
import itertools

from tests import own


class OwnTurns:
    """Own turns of some tools over a scene, each reckoned once."""

    def __init__(self, part, stock, tools):
        self.part, self.stock, self.tools = part, stock, tools
        self.known = {}
        self.first = frozenset(own.cells_in(stock))

    def turn(self, stands, number):
        if (stands, number) not in self.known:
            self.known[stands, number] = frozenset(own.behind(self.part, self.stock, stands, self.tools[number]))
        return self.known[stands, number]

    def behind(self, row):
        stands = self.first
        for number in row:
            stands = self.turn(stands, number)
        return stands

    def rounds(self):
        stands, turns, since = self.first, [], 0
        for number in itertools.cycle(range(len(self.tools))):
            left = self.turn(stands, number)
            since = since + 1 if left == stands else 0
            if left != stands:
                turns.append((number, len(stands) - len(left)))
                stands = left
            if since == len(self.tools):
                return tuple(turns), stands

    def fewest(self):
        """All of the shortest rows that leave the least, by going through all rows."""
        _, goal = self.rounds()
        for many in itertools.count():
            rows = [row for row in itertools.product(range(len(self.tools)), repeat=many) if self.behind(row) == goal]
            if rows:
                return rows


@functools.lru_cache(maxsize=None)
def own_turns(part, stock, tools):
    return OwnTurns(part, stock, tools)
