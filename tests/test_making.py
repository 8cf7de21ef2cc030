"""Programs that are told: what they leave, and with how few tools."""

import unittest

from allitreaches.errors import BadPart, BadStock, BadTools
from allitreaches.lots import Lot
from allitreaches.machine import halved, Machine
from allitreaches.making import program_of, shows_program_of
from allitreaches.places import Scene
from allitreaches.programs import read_program
from allitreaches.rounds import fewest, least
from tests import own_machine, own_mill, samples
from tests.machines import refusal
from tests.own_mill import OwnMill
from tests.own_turns import own_turns
from tests.samples import BARE, UNIT, WIDE
from tests.values import strange
from tests.wrong import bent_lines, bent_parts, bent_stocks, bent_toolss, check_refusals


def settings():
    """PARTS, STOCKS and TOOLS, mostly such that more than one TOOL is wanted."""
    rows = [(part, stock, tools) for (part, stock), tools in samples.THREE + samples.TURNS]
    chance = samples.some(91)
    for _ in range(10):
        part, stock = samples.some_scene(chance, 3)
        rows.append((part, stock, tuple(samples.some_tool(chance, 1) for _ in range(chance.randint(1, 3)))))
    return rows


def halves_left(part, stock, tools):
    """The cells of halves of what no turns take, by own turns."""
    _, left = own_turns(part, stock, tools).rounds()
    return {own_mill.half_of(spot) for spot in own_machine.spots_of(left)}


def is_made(part, stock, tools, text):
    """Whether the own machine does this program, which leaves just the least with the fewest tools."""
    mill = OwnMill(part, stock, tools)
    if mill.run(text.split("\n") if text else []) is not None:
        return False
    return len(mill.turns) == len(own_turns(part, stock, tools).fewest()[0]) and mill.halves() == halves_left(part, stock, tools)


class Told(unittest.TestCase):
    def test_an_own_machine_does_it_line_by_line(self):
        turns = []
        for part, stock, tools in settings():
            text = program_of(part, stock, tools)
            self.assertIs(type(text), str)
            mill = OwnMill(part, stock, tools)
            for line in text.split("\n") if text else []:
                self.assertIsNone(mill.do(line), (part, stock, tools, line))
            many = len(own_turns(part, stock, tools).fewest()[0])
            self.assertEqual((len(mill.turns), [word for word, _ in read_program(text)].count("tool")), (many, many))
            self.assertEqual(mill.halves(), halves_left(part, stock, tools))
            turns.append(many)
        # Such as want no tool at all, one, two, three of them.
        self.assertEqual({0, 1, 2, 3}, set(turns))

    def test_a_new_machine_does_it_line_by_line(self):
        for part, stock, tools in settings():
            text, machine, scene = program_of(part, stock, tools), Machine(part, stock, tools), Scene(part, stock)
            for line in text.split("\n") if text else []:
                self.assertIsNone(refusal(machine.do, line))
            self.assertEqual(machine.lot(), halved(least(scene, tools)))
            self.assertEqual(machine.volume(), (least(scene, tools).cubes, 1))
            self.assertEqual(len(machine.turns), len(fewest(scene, tools)))
            other = Machine(part, stock, tools)
            self.assertIsNone(other.run(text))
            self.assertIs(other == machine, True)
            self.assertIs(shows_program_of(part, stock, tools, text), True)

    def test_where_nothing_can_be_taken(self):
        for (part, stock), tools in ((samples.CHEST, (BARE, WIDE)), ((UNIT, UNIT), (BARE,)), (samples.HOLE, (samples.IDLE,))):
            self.assertIs(is_made(part, stock, tools, program_of(part, stock, tools)), True)
            self.assertNotIn("tool", program_of(part, stock, tools))
            self.assertIs(shows_program_of(part, stock, tools, ""), True)
            self.assertIs(shows_program_of(part, stock, tools, "rem\nrem nothing"), True)
            self.assertIs(shows_program_of(part, stock, tools, "tool 0"), False)

    def test_great_stocks(self):
        whole = ((0, 8, 0, 8, 0, 8),)
        tools = (((UNIT[0],), ((-1, 2, -1, 2, 1, 4),)), (((-4, 0, -4, 0, -4, 4),), ()))
        text = program_of(((3, 5, 3, 5, 0, 7),), whole, tools)
        self.assertIs(shows_program_of(((3, 5, 3, 5, 0, 7),), whole, tools, text), True)


class Shown(unittest.TestCase):
    def near(self, text, tools, chance):
        """Programs near to the one that was told."""
        rows = text.split("\n") if text else []
        places = chance.sample(range(len(rows)), min(5, len(rows)))
        values = [text, text + "\nrem on" if text else "rem on", "", "rem", text + "\n" + text if text else "rem\nrem "]
        values += ["\n".join(rows[:at] + rows[at + 1:]) for at in places]
        values += ["\n".join(rows[:at] + [chance.choice(rows)] + rows[at:]) for at in places]
        values += ["\n".join(rows[:at] + ["rem " + rows[at]] + rows[at:]) for at in places]
        values += ["\n".join(rows[:at] + ["to 0 0 99"] + rows[at:]) for at in places]
        if rows:
            at, to = chance.randrange(len(rows)), chance.randrange(len(rows))
            values.append("\n".join((rows[:at] + rows[at + 1:])[:to] + [rows[at]] + (rows[:at] + rows[at + 1:])[to:]))
            values += ["\n".join(rows + rows[-1:]), "\n".join(rows[:1] + rows), "\n".join(rows[::-1]), "\n".join(rows[:-1])]
        return values + ["\n".join(rows + [f"tool {number}"]) for number in range(len(tools))]

    def test_an_own_machine_says_the_same(self):
        chance = samples.some(92)
        shown = []
        for part, stock, tools in settings()[::3]:
            for value in self.near(program_of(part, stock, tools), tools, chance):
                right = is_made(part, stock, tools, value)
                self.assertIs(shows_program_of(part, stock, tools, value), right, (part, stock, tools, value))
                shown.append(right)
        self.assertGreater(shown.count(True), 40)
        self.assertGreater(shown.count(False), 60)

    def layers(self, heights):
        """Moves of a bare cutter through a stock two long and one wide, layer by layer."""
        rows, y = ["to -1/2 0 2"], "0"
        for z in heights:
            rows.append(f"to -1/2 {y} {z}")
            for y in ("-1/2", "0", "1/2"):
                rows += [f"to -1/2 {y} {z}", f"to 2 {y} {z}", f"to -1/2 {y} {z}"]
        return rows

    def test_moves_that_are_done_otherwise_and_leave_the_same(self):
        part, stock, tools = (), ((0, 2, 0, 1, 0, 2),), (samples.NARROW, BARE)
        heights = ["3/2", "1", "1/2", "0", "-1/2"]
        # What has no thickness counts, too: without the least and the greatest of them a sheet stands at an end.
        told = [(heights, True), (heights[::-1], True), (heights[1:], False), (heights[:-1], False), (heights[::2], False), (heights * 2, True),
                (heights[:1] + heights[2:], False), (["0", "1", "-1/2", "3/2"], False), (["0", "1/2", "1", "-1/2", "3/2"], True)]
        for rows, right in told:
            text = "\n".join(["tool 1"] + self.layers(rows))
            self.assertIs(shows_program_of(part, stock, tools, text), right, rows)
            self.assertIs(is_made(part, stock, tools, text), right)
            for more in (text + "\nto -1/2 1/2 9\ntool 0", "tool 0\n" + text, "tool 1\n" + text):
                self.assertIs(shows_program_of(part, stock, tools, more), False)
            self.assertIs(shows_program_of(part, stock, tools, "rem\n" + text + "\nrem"), right)
        straight = "tool 1\nto 0 0 0\nto 1 0 0\nto 1 0 2"
        self.assertIs(shows_program_of(part, stock, tools, straight), False)

    def test_values_of_all_kinds(self):
        part, stock = samples.BLOCK
        told = program_of(part, stock, (BARE,))
        values = [value for value in strange() + bent_lines()] + [[told], (told,), {told: 0}, read_program(told), tuple(told.split("\n"))]
        for value in values + [told + "\n", "\n" + told, told.upper(), told.replace(" ", "  "), Lot(()), Machine(part, stock, (BARE,)), (0,)]:
            self.assertIs(shows_program_of(part, stock, (BARE,), value), False, value)
        # Where nothing can be taken the text without signs is such a program, and no other kind of nothing.
        for value in [value for value in strange() + bent_lines() if value != ""]:
            self.assertIs(shows_program_of(UNIT, UNIT, (BARE,), value), False, value)
        self.assertIs(shows_program_of(UNIT, UNIT, (BARE,), ""), True)


class Refused(unittest.TestCase):
    def rows(self):
        return [("part", UNIT, BadPart, bent_parts()), ("stock", UNIT, BadStock, bent_stocks()), ("tools", (BARE, WIDE), BadTools, bent_toolss())]

    def test_in_sequence(self):
        check_refusals(self, program_of, self.rows())
        for value in ("", "tool 0", None, "x", 0):
            check_refusals(self, shows_program_of, self.rows() + [("value", value, None, [])])


if __name__ == "__main__":
    unittest.main()
