"""What machines leave in all, and scenes that are mirrored."""

import unittest
from fractions import Fraction

from allitreaches.fits import by_holders, fits, needed, rest, undercuts
from allitreaches.lots import Lot
from allitreaches.machine import halved, Machine
from allitreaches.making import program_of, shows_program_of
from allitreaches.places import free, outside, reach, Scene
from allitreaches.rounds import fewest, least, rounds, stands_behind
from allitreaches.taking import behind, stages, taken
from tests import own, samples
from tests.machines import refusal, settings, sides_of, some_lines
from tests.own_mill import OwnMill


class WhateverItDoes(unittest.TestCase):
    def test_what_least_tells_still_stands(self):
        chance = samples.some(111)
        less = 0
        for part, stock, tools in settings(112, 12):
            stays, first = halved(least(Scene(part, stock), tools)), Machine(part, stock, tools).lot()
            machine, mill = Machine(part, stock, tools), OwnMill(part, stock, tools)
            for number, (line, _) in enumerate(some_lines(chance, mill, sides_of(part, stock, tools), 80)):
                refusal(machine.do, line)
                if number % 20 == 19:
                    self.assertIs(stays.is_in(machine.lot()), True)
                    self.assertIs(machine.lot().is_in(first), True)
                    self.assertIs(machine.lot().is_closed, True)
            less += machine.lot() != first
            for point in [own.point_of(Fraction(index, 4) for index in cell) for cell in stays.cells[::7]]:
                self.assertIs(machine.has(point), True)
        self.assertGreater(less, 10)

    def test_a_told_program_leaves_just_least(self):
        chance = samples.some(113)
        rows = [(part, stock, tools) for (part, stock), tools in samples.TURNS + samples.THREE]
        for part, stock, tools in rows:
            scene = Scene(part, stock)
            left, machine = least(scene, tools), Machine(part, stock, tools)
            machine.run(program_of(part, stock, tools))
            self.assertEqual(machine.volume(), (left.cubes, 1))
            for _ in range(300):
                row = [Fraction(chance.randint(-2, 17), chance.choice((2, 2, 3, 4, 5))) for _ in range(3)]
                self.assertIs(machine.has(own.point_of(row)), left.has(own.point_of(row)), row)
            for cell in scene.stands.cells:
                self.assertIs(machine.has(own.point_of(own.sample_of(cell))), left.has(own.point_of(own.sample_of(cell))))


def other_box(box, axis, far):
    """The BOX with far - x in place of each number on the axis."""
    at = 2 * axis
    return box[:at] + (far - box[at + 1], far - box[at]) + box[at + 2:]


def other_boxes(boxes, axis, far):
    return tuple(other_box(box, axis, far) for box in boxes)


def other_tools(tools, axis):
    return tuple((other_boxes(cutter, axis, 0), other_boxes(holder, axis, 0)) for cutter, holder in tools)


def other_lot(lot, axis):
    """The Lot of places or spots, 8 - x in place of each x."""
    return Lot(tuple(cell[:axis] + (16 - cell[axis],) + cell[axis + 1:] for cell in lot.cells))


class Mirrored(unittest.TestCase):
    def pairs(self, seed):
        chance = samples.some(seed)
        rows = [(part, stock, tools) for (part, stock), tools in samples.TURNS[3:] + samples.THREE]
        for _ in range(10):
            part, stock = samples.some_scene(chance, 4)
            rows.append((part, stock, tuple(samples.some_tool(chance, 2) for _ in range(chance.randint(1, 3)))))
        for number, (part, stock, tools) in enumerate(rows):
            axis = number % 2
            yield axis, (part, stock, tools), (other_boxes(part, axis, 8), other_boxes(stock, axis, 8), other_tools(tools, axis))

    def test_places_and_turns(self):
        for axis, (part, stock, tools), (other_part, other_stock, others) in self.pairs(114):
            scene, mirror = Scene(part, stock), Scene(other_part, other_stock)
            self.assertEqual(mirror.stands, other_lot(scene.stands, axis))
            for tool, other in zip(tools, others):
                for look in (free, reach, behind):
                    self.assertEqual(look(mirror, mirror.stands, other), other_lot(look(scene, scene.stands, tool), axis))
                self.assertEqual(outside(mirror, other), other_lot(outside(scene, tool), axis))
                self.assertEqual(stages(mirror, mirror.stands, other), tuple(other_lot(lot, axis) for lot in stages(scene, scene.stands, tool)))
                places = reach(scene, scene.stands, tool)
                self.assertEqual(taken(other, other_lot(places, axis)), other_lot(taken(tool, places), axis))

    def test_all_turns_and_what_fits(self):
        for axis, (part, stock, tools), (other_part, other_stock, others) in self.pairs(115):
            scene, mirror = Scene(part, stock), Scene(other_part, other_stock)
            for look in (least, rest, by_holders):
                self.assertEqual(look(mirror, others), other_lot(look(scene, tools), axis))
            for look in (rounds, fewest, fits, needed):
                self.assertEqual(look(mirror, others), look(scene, tools))
            self.assertEqual(undercuts(mirror), other_lot(undercuts(scene), axis))
            row = tuple(range(len(tools))) * 2
            self.assertEqual(stands_behind(mirror, others, row), other_lot(stands_behind(scene, tools, row), axis))

    def test_programs(self):
        for axis, (part, stock, tools), (other_part, other_stock, others) in self.pairs(116):
            rows = []
            for line in program_of(part, stock, tools).split("\n"):
                words = line.split(" ")
                if words[0] == "to":
                    words[1 + axis] = str(8 - Fraction(words[1 + axis]))
                rows.append(" ".join(words))
                # It comes in at 0 in each of them: so from there on it goes to where the other one is.
                if words[0] == "tool":
                    rows.append(self.aside(axis, other_part + other_stock, others[int(words[1])]))
            self.assertIs(shows_program_of(other_part, other_stock, others, "\n".join(rows)), True)

    def aside(self, axis, boxes, tool):
        row = [0, 0, max(box[5] for box in boxes) - min(box[4] for box in tool[0] + tool[1])]
        row[axis] = 8
        return "to " + " ".join(map(str, row))


if __name__ == "__main__":
    unittest.main()
