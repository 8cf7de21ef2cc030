"""What is left, for want of what, and which tools are needed, against own turns."""

import unittest
from fractions import Fraction

from allitreaches.errors import BadTools, NoScene
from allitreaches.fits import by_holders, fits, needed, rest, undercuts
from allitreaches.lots import Lot, lot_of_boxes
from allitreaches.places import Scene
from allitreaches.rounds import least
from tests import own, samples
from tests.own_turns import own_turns
from tests.samples import BARE, HIGH, NARROW, UNIT, WIDE
from tests.wrong import bent_scenes, bent_toolss, check_refusals

POSTS = (((0, 1, 0, 1, 0, 3), (3, 4, 0, 1, 0, 3)), ((0, 4, 0, 1, 0, 3),))
# Its leg is under the middle of its top.
TABLE = samples.TABLE
BROAD = (UNIT, ((-2, 3, -2, 3, 1, 4),))

SETTINGS = [(POSTS, (WIDE,)), (POSTS, (WIDE, BARE)), (POSTS, (BARE, BARE)), (POSTS, (BROAD, HIGH)), (TABLE, (BARE,)), (TABLE, (BROAD, NARROW)),
            ((UNIT, UNIT), (BARE, WIDE)), (((), UNIT), (BROAD,)), (samples.BLOCK, (BARE, NARROW, BARE)), (samples.OUTER, (WIDE,))]


def settings():
    chance = samples.some(101)
    rows = [(part, stock, tools) for (part, stock), tools in SETTINGS + samples.THREE + samples.TURNS[:9]]
    for _ in range(15):
        part, stock = samples.some_scene(chance, 3)
        rows.append((part, stock, tuple(samples.some_tool(chance, 1) for _ in range(chance.randint(1, 3)))))
    return rows


def own_left(part, stock, tools):
    """What no turns take, by own turns; all that stands without tools."""
    return own_turns(part, stock, tools).rounds()[1] if tools else frozenset(own.cells_in(stock))


def own_rest(part, stock, tools):
    return {cell for cell in own_left(part, stock, tools) if not any(own.lies_in(box, own.sample_of(cell)) for box in part)}


def spots_of(cell):
    """Spots of a CELL: its middle, and others near to its ends."""
    rows = [own.ends(index) for index in cell]
    return [tuple(low + (high - low) * share for low, high in rows) for share in (Fraction(1, 2), Fraction(1, 1000), Fraction(999, 1000))]


def is_straight_under(cell, part):
    """Whether some spot of the part is straight above a spot of the CELL: some corner, rim or side of a BOX, or within it."""
    for x, y, z in spots_of(cell):
        for x0, x1, y0, y1, _, z1 in part:
            if x0 <= x <= x1 and y0 <= y <= y1 and z < z1:
                return True
    return False


class Against(unittest.TestCase):
    def test_own_turns(self):
        told = {"fits": [], "held": 0, "needed": set()}
        for part, stock, tools in settings():
            scene, left = Scene(part, stock), own_rest(part, stock, tools)
            self.assertEqual(set(rest(scene, tools).cells), left)
            self.assertIs(fits(scene, tools), not left)
            alone = own_rest(part, stock, tuple((cutter, ()) for cutter, _ in tools))
            self.assertEqual(set(by_holders(scene, tools).cells), left - alone)
            whole = own_left(part, stock, tools)
            right = tuple(number for number in range(len(tools)) if own_left(part, stock, tools[:number] + tools[number + 1:]) != whole)
            self.assertEqual(needed(scene, tools), right, (part, stock, tools))
            self.assertEqual([type(value) for value in (rest(scene, tools), fits(scene, tools), by_holders(scene, tools), needed(scene, tools))],
                             [Lot, bool, Lot, tuple])
            told["fits"].append(not left)
            told["held"] += bool(left - alone)
            told["needed"].add(right)
        self.assertLess(5, told["fits"].count(True))
        self.assertLess(5, told["fits"].count(False))
        self.assertGreater(told["held"], 4)
        self.assertLessEqual({(), (0,), (1,), (0, 1), (0, 1, 2)}, told["needed"])

    def test_one_tool_alone(self):
        for part, stock in samples.SCENES.values():
            scene = Scene(part, stock)
            for tool in (BARE, WIDE, samples.SIDE):
                left = own_rest(part, stock, (tool,))
                self.assertEqual(set(rest(scene, (tool,)).cells), left)
                taken = own_left(part, stock, (tool,)) != own.cells_in(stock)
                self.assertEqual(needed(scene, (tool,)), (0,) if taken else ())
                self.assertEqual(set(by_holders(scene, (tool,)).cells), left - own_rest(part, stock, ((tool[0], ()),)))


class Undercuts(unittest.TestCase):
    def check(self, part, stock):
        told = undercuts(Scene(part, stock))
        right = {cell for cell in own.cells_in(stock)
                 if is_straight_under(cell, part) and not any(own.lies_in(box, own.sample_of(cell)) for box in part)}
        self.assertEqual(set(told.cells), right)
        self.assertIs(type(told), Lot)
        return told

    def test_each_cell(self):
        for part, stock in list(samples.SCENES.values()) + [POSTS, samples.POCKET, samples.SHAFT]:
            self.check(part, stock)
        chance = samples.some(102)
        many = [len(self.check(*samples.some_scene(chance, 4))) for _ in range(60)]
        self.assertGreater(many.count(0), 5)
        self.assertGreater(len(many) - many.count(0), 10)

    def test_by_hand(self):
        # All under a bridge, its sides and corners too: the sheets around what is under it stand straight under its rim.
        bridge = Scene(((1, 2, 0, 1, 2, 3),), ((0, 3, 0, 1, 0, 3),))
        self.assertEqual(undercuts(bridge), lot_of_boxes(((1, 2, 0, 1, 0, 2),)).less(lot_of_boxes(((1, 2, 0, 1, 2, 3),))))
        self.assertEqual(undercuts(Scene((), UNIT)), Lot(()))
        self.assertEqual(undercuts(Scene(UNIT, UNIT)), Lot(()))
        # What lies above is not under it; a part far above counts, and one below the stock not.
        self.assertEqual(undercuts(Scene(((0, 1, 0, 1, 0, 1),), ((0, 1, 0, 1, 0, 2),))), Lot(()))
        self.assertEqual(undercuts(Scene(((0, 1, 0, 1, 7, 8),), UNIT)), lot_of_boxes(UNIT))
        self.assertEqual(undercuts(Scene(((0, 1, 0, 1, 0, 1),), ((0, 1, 0, 1, 2, 3),))), Lot(()))
        high = ((0, 1, 0, 1, 7, 8),)
        self.assertEqual(undercuts(Scene(high, ((0, 2, 0, 1, 0, 8),))), lot_of_boxes(((0, 1, 0, 1, 0, 7),)).less(lot_of_boxes(high)))
        # A part beside the stock has only the side in common with it.
        self.assertEqual(undercuts(Scene(((1, 2, 0, 1, 5, 6),), UNIT)).cells, tuple((2, y, z) for y in range(3) for z in range(3)))
        # Between two boxes of the part, and touching one from below.
        shelf = Scene(((0, 1, 0, 1, 0, 1), (0, 1, 0, 1, 2, 3)), ((0, 1, 0, 1, 0, 4),))
        self.assertEqual({cell[2] for cell in undercuts(shelf).cells}, {3})
        self.assertEqual(undercuts(shelf).cubes, 1)


class ByHand(unittest.TestCase):
    def test_posts_with_a_gap(self):
        scene = Scene(*POSTS)
        for tool, left in ((BARE, 0), (NARROW, 0), (WIDE, 4), (BROAD, 4), (HIGH, 0)):
            self.assertEqual([rest(scene, (tool,)).cubes, by_holders(scene, (tool,)).cubes, fits(scene, (tool,))], [left, left, left == 0])
        self.assertEqual(needed(scene, (WIDE, BARE)), (1,))
        self.assertEqual(needed(scene, (BARE, BARE)), ())
        self.assertEqual(needed(scene, (BARE, NARROW, BARE, HIGH)), ())
        # A cutter wider than the gap: nothing of it is for want of holders.
        wide = (((0, 3, 0, 1, 0, 1),), ())
        self.assertEqual([rest(scene, (wide,)).cubes, by_holders(scene, (wide,))], [6, Lot(())])

    def test_a_table_with_a_leg(self):
        scene = Scene(*TABLE)
        self.assertEqual([rest(scene, (tool,)).cubes for tool in (BARE, NARROW, HIGH)], [0, 16, 16])
        self.assertEqual([fits(scene, (BARE,)), fits(scene, (NARROW,)), fits(scene, (NARROW, BARE))], [True, False, True])
        self.assertEqual(by_holders(scene, (NARROW,)), rest(scene, (NARROW,)))
        self.assertEqual(needed(scene, (NARROW, BARE)), (1,))
        self.assertEqual(undercuts(scene).cubes, 16)

    def test_a_part_as_large_as_the_stock(self):
        scene = Scene(UNIT, UNIT)
        self.assertEqual([rest(scene, (BARE, WIDE)), by_holders(scene, (BARE, WIDE))], [Lot(()), Lot(())])
        self.assertEqual([fits(scene, (BARE,)), needed(scene, (BARE, WIDE)), needed(scene, (BARE,))], [True, (), ()])

    def test_an_empty_part(self):
        scene = Scene((), ((0, 2, 0, 2, 0, 2),))
        for tools in ((BARE,), (WIDE,), (BROAD, BARE)):
            self.assertEqual(rest(scene, tools), least(scene, tools))
        self.assertEqual([fits(scene, (BARE,)), needed(scene, (BARE,)), needed(scene, (BARE, BARE)), undercuts(scene)], [True, (0,), (), Lot(())])

    def test_the_part_is_no_rest(self):
        for part, stock, tools in settings():
            scene = Scene(part, stock)
            self.assertEqual(rest(scene, tools), least(scene, tools).less(lot_of_boxes(part)))
            self.assertIs(by_holders(scene, tools).is_in(rest(scene, tools)), True)


class Refused(unittest.TestCase):
    def test_in_sequence(self):
        rows = [("scene", Scene(*POSTS), NoScene, bent_scenes()), ("tools", (BARE, WIDE), BadTools, bent_toolss())]
        for look in (rest, fits, by_holders, needed):
            check_refusals(self, look, rows)
        check_refusals(self, undercuts, rows[:1])


if __name__ == "__main__":
    unittest.main()
