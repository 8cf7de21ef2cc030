"""What holds over the whole: scenes exchanged and moved, what was told handed in again, calls that change nothing."""

import copy
import unittest
from fractions import Fraction

from allitreaches import (benches, boxes, cells, desk, drawings, fits, journals, lots, machine, making, moves, paths, places, points, programs,
                          taking, ways)
from allitreaches.drawings import Drawing, exchanged, layer, mirrored
from allitreaches.errors import ReachError
from allitreaches.fits import by_holders, rest
from allitreaches.lots import Lot
from allitreaches.machine import halved, Machine
from allitreaches.places import Scene
from allitreaches.rounds import fewest, least, rounds, shows_fewest, stands_behind
from allitreaches.taking import behind
from tests import samples
from tests.own_drawing import plain_text
from tests.samples import BARE, NARROW, STEPPED, UNIT


def scenes(seed, side):
    """PARTS, STOCKS and TOOLS, with numbers up to side."""
    chance = samples.some(seed)
    rows = [(part, stock, tools) for (part, stock), tools in samples.TURNS[:4] + samples.TURNS[5:8] + samples.THREE]
    for _ in range(8):
        part, stock = samples.some_scene(chance, side)
        rows.append((part, stock, tuple(samples.some_tool(chance, 2) for _ in range(chance.randint(1, 3)))))
    return rows


def told_of(part, stock, tools):
    """What stands behind a turn, behind all, in rows and what doesn't fit; the fewest turns, and all that took something."""
    scene = Scene(part, stock)
    found = [behind(scene, scene.stands, tool) for tool in tools]
    found += [least(scene, tools), stands_behind(scene, tools, tuple(range(len(tools)))), rest(scene, tools), by_holders(scene, tools)]
    return found, (fewest(scene, tools), rounds(scene, tools))


def exchanged_box(box):
    return (box[2], box[3], box[0], box[1], box[4], box[5])


def on_all(row, look):
    """The PART, the STOCK and the TOOLS with look done to each BOX."""
    part, stock, tools = row
    return (tuple(map(look, part)), tuple(map(look, stock)), tuple((tuple(map(look, cutter)), tuple(map(look, holder))) for cutter, holder in tools))


class Exchanged(unittest.TestCase):
    def test_by_hand_and_as_a_drawing(self):
        for row in scenes(181, 4):
            part, stock, tools = row
            lots_told, turns = told_of(*row)
            image = exchanged(Drawing(plain_text(stock, part, tools)))
            self.assertEqual((image.part, image.stock, image.tools), on_all(row, exchanged_box))
            for other in (on_all(row, exchanged_box), (image.part, image.stock, image.tools)):
                others, other_turns = told_of(*other)
                self.assertEqual(others, [Lot(tuple((y, x, z) for x, y, z in lot.cells)) for lot in lots_told])
                self.assertEqual(other_turns, turns)

    def test_mirrored_as_a_drawing(self):
        for row in scenes(182, 4)[::2]:
            part, stock, tools = row
            lots_told, turns = told_of(*row)
            image = mirrored(Drawing(plain_text(stock, part, tools)))
            others, other_turns = told_of(image.part, image.stock, image.tools)
            self.assertEqual(others, [Lot(tuple((16 - x, y, z) for x, y, z in lot.cells)) for lot in lots_told])
            self.assertEqual(other_turns, turns)

    def test_layers(self):
        for row in scenes(183, 8)[-4:]:
            part, stock, tools = row
            drawing = Drawing(plain_text(stock, part, tools))
            left = least(Scene(part, stock), tools)
            for number in range(8):
                rows = layer(drawing, left, number)
                other = layer(exchanged(drawing), Lot(tuple((y, x, z) for x, y, z in left.cells)), number)
                self.assertEqual(["".join(signs) for signs in zip(*rows[::-1])], list(other[::-1]))
                image = layer(mirrored(drawing), Lot(tuple((16 - x, y, z) for x, y, z in left.cells)), number)
                self.assertEqual([signs[::-1] for signs in rows], list(image))


class Moved(unittest.TestCase):
    def test_by_whole_numbers(self):
        chance = samples.some(184)
        for part, stock, tools in scenes(185, 4):
            most = [8 - max(box[2 * axis + 1] for box in part + stock) for axis in range(3)]
            least_by = [-min(box[2 * axis] for box in part + stock) for axis in range(3)]
            by = [chance.randint(low, high) for low, high in zip(least_by, most)]
            lots_told, turns = told_of(part, stock, tools)
            new_part, new_stock, _ = on_all((part, stock, tools), lambda box: tuple(number + by[at // 2] for at, number in enumerate(box)))
            others, other_turns = told_of(new_part, new_stock, tools)
            self.assertEqual(others, [Lot(tuple(tuple(index + 2 * far for index, far in zip(cell, by)) for cell in lot.cells)) for lot in lots_told])
            self.assertEqual(other_turns, turns)


class HandedInAgain(unittest.TestCase):
    """What was told, whole or in parts, is taken where it is asked for."""

    def test_drawings_programs_journals(self):
        part, stock = samples.POCKET
        tools = (samples.BROAD, STEPPED)
        drawing = Drawing(drawings.drawing_text(stock, part, tools))
        text = making.program_of(drawing.part, drawing.stock, drawing.tools)
        moves_told = programs.read_program(text)
        self.assertEqual(programs.program_text(moves_told), text)
        bench = benches.Bench(drawing.text)
        for line in text.split("\n"):
            bench.do(line)
        scene = Scene(drawing.part, drawing.stock)
        self.assertEqual(bench.machine().lot(), halved(least(scene, drawing.tools)))
        self.assertEqual(bench.machine().turns, fewest(scene, drawing.tools))
        self.assertIs(shows_fewest(scene, drawing.tools, bench.machine().turns), True)
        said = desk.Desk(journals.journal(bench))
        self.assertEqual(points.read_point(said.say("place")), bench.machine().place)
        self.assertEqual(said.say("left"), str(least(scene, tools).cubes))
        self.assertEqual(said.say("volume"), said.say("left"))
        self.assertEqual(making.shows_program_of(part, stock, tools, "\n".join(journals.journal(said.bench).split("\n")[len(drawing.text.split("\n")) + 2:])), True)
        place = bench.machine().place
        self.assertIs(places.can_stand(scene, least(scene, tools), tools[bench.machine().tool], place), True)
        for number in range(8):
            self.assertEqual(said.say(f"layer {number}"), " ".join(layer(said.bench.drawing, least(scene, tools), number)))

    def test_places_of_a_machine(self):
        scene = Scene((), ((0, 2, 0, 2, 0, 2),))
        told = paths.path(scene, scene.stands, NARROW)
        one = Machine(scene.part, scene.stock, (NARROW,))
        one.do("tool 0")
        for point in (told[0][:2] + one.place[2:],) + told:
            for axis in range(3):
                goal = one.place[:axis] + (point[axis],) + one.place[axis + 1:]
                one.do(programs.program_text((("to", goal),)))
        self.assertEqual(one.lot(), halved(behind(scene, scene.stands, NARROW)))
        done, volume = paths.walked(scene, scene.stands, NARROW, told)
        self.assertEqual((done, Fraction(*volume)), ("done", 8 - Fraction(*one.volume())))

    def test_great_numbers(self):
        great = boxes.volume((-987654321, 987654321) * 3) ** 3
        one = Machine((), ((0, 1, 0, 1, 0, 1),), (BARE,))
        self.assertIsNone(one.run(programs.program_text((("tool", 0), ("to", ((0, 1), (0, 1), (great, 1))), ("to", ((-great, 1), (0, 1), (great, 1))),
                                                         ("to", ((-great, 1), (0, 1), (0, 1))), ("to", ((2 * great + 1, 2), (0, 1), (0, 1)))))))
        self.assertEqual((one.volume(), one.place), ((0, 1), ((2 * great + 1, 2), (0, 1), (0, 1))))
        self.assertIs(one.has(((3 * great + 1, 3), (0, 1), (0, 1))), False)


class Calls(unittest.TestCase):
    """Each function and method of the later parts, called twice with equal things."""

    def things(self):
        part, stock, tools = ((0, 1, 0, 1, 0, 1),), ((0, 2, 0, 1, 0, 2),), (NARROW, BARE)
        scene, text = Scene(part, stock), drawings.drawing_text(stock, part, tools)
        one, lot = Machine(part, stock, tools), scene.stands
        one.run("tool 0\nto 1 0 2\nto 1 0 1")
        bench = benches.Bench(text)
        bench.do("tool 0")
        program = making.program_of(part, stock, tools)
        point = ((3, 2), (1, 2), (1, 2))
        return [
            (programs.read_program, (program,)), (programs.program_text, ((("tool", 0), ("rem", "x")),)), (machine.halved, (lot,)), (Machine, (part, stock, tools)),
            (making.program_of, (part, stock, tools)), (making.shows_program_of, (part, stock, tools, program)), (one.has, (point,)), (one.lot, ()),
            (one.volume, ()), (one.copy, ()), (fits.rest, (scene, tools)), (fits.fits, (scene, tools)), (fits.undercuts, (scene,)),
            (fits.by_holders, (scene, tools)), (fits.needed, (scene, tools)), (Drawing, (text,)), (drawings.drawing_text, (stock, part, tools)),
            (mirrored, (Drawing(text),)), (exchanged, (Drawing(text),)), (layer, (Drawing(text), lot, 0)), (benches.Bench, (text,)), (bench.machine, ()),
            (bench.copy, ()), (journals.journal, (bench,)), (journals.read_journal, (journals.journal(bench),)), (rounds, (scene, tools)),
            (paths.path, (scene, lot, NARROW)), (ways.way, (scene, lot, BARE, ((0, 1), (0, 1), (5, 1)), ((5, 1), (0, 1), (0, 1)))),
            (moves.clear, (scene, lot, BARE, ((0, 1), (0, 1), (5, 1)), point)), (taking.takes, (scene, lot, BARE, point)), (cells.cell_of, (point,)),
            (lots.within_boxes, (part,)),
        ]

    def test_equal_calls_return_equal_results_and_change_nothing(self):
        for (look, args), (same, others) in zip(self.things(), self.things()):
            before = copy.deepcopy(args)
            told = look(*args)
            self.assertEqual(look(*args), told, look)
            self.assertEqual(same(*others), told, look)
            self.assertEqual(args, before, look)
            self.assertIs(type(look(*args)), type(told))

    def test_a_call_that_raises_changes_nothing(self):
        one, bench = Machine(UNIT, ((0, 2, 0, 1, 0, 1),), (BARE,)), benches.Bench("stock 0..2 0..1 0..1\ntool\ncut 0..1 0..1 0..1")
        held = desk.Desk(journals.journal(bench))
        for lines in ((), ("tool 0",), ("to 1 0 1", "to 1 0 1/2")):
            for line in lines:
                one.do(line)
                bench.do(line)
                held.say(line)
            before = (one.copy(), bench.copy(), held.bench.copy(), bench.machine(), held.bench.machine())
            for look, value in ((one.do, "to 9 9 9"), (one.do, "tool 1"), (one.run, "rem\ntool 7"), (one.has, 0), (bench.do, "tool 1"), (bench.do, None),
                                (bench.redo, None), (bench.keep, None), (held.say, "redo"), (held.say, "tool 1"), (held.say, "layer 8"), (held.say, "x")):
                self.assertRaises(ReachError, look, *[value] * (look not in (bench.redo, bench.keep)))
                self.assertEqual((one, bench, held.bench, bench.machine(), held.bench.machine()), before)

    def test_only_the_operators_that_are_told(self):
        bench = benches.Bench("stock 0..2 0..1 0..1\ntool\ncut 0..1 0..1 0..1")
        for value in (Machine((), UNIT, (BARE,)), Drawing(bench.drawing.text), bench, desk.Desk(journals.journal(bench))):
            for look in (lambda a: a + a, lambda a: a < a, lambda a: a * 2, lambda a: -a, lambda a: a[0], lambda a: a & a):
                self.assertRaises(TypeError, look, value)


if __name__ == "__main__":
    unittest.main()
