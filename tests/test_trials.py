"""Trials on benches: what is kept of them, and what is not."""

import unittest

from allitreaches.benches import Bench
from allitreaches.errors import NoBlock, NoTool, NothingToRedo, NothingToUndo
from allitreaches.journals import journal
from tests import samples
from tests.benching import check_bench, check_both_ways, new, some_deed, texts
from tests.machines import refusal
from tests.values import assert_refused, strange

TEXT = "stock 0..2 0..2 0..2\ntool\ncut 0..1 0..1 0..1\nhold 0..1 0..1 1..2\ntool\ncut 0..1 0..1 0..1"
NOT_TRUE = [False, None, 0, 1, 2, "", "True", "keep", [], [True], (True,), {}, {True: True}, 1.0]


class Broken(Exception):
    """What a look raises that is no error of the package."""


def begun():
    """A bench with deeds of which two are undone, and an own one."""
    bench, own = new(TEXT)
    for line in ("tool 0", "to 0 0 1", "rem on", "to 0 0 2", "tool 1"):
        bench.do(line)
        own.do(line)
    for _ in range(2):
        bench.undo()
        own.undo()
    return bench, own


class Kept(unittest.TestCase):
    def look(self, bench):
        """Something of each kind."""
        bench.redo()
        bench.undo()
        bench.undo()
        bench.do("to 0 1 1")
        bench.do("to 0 0 1")
        bench.undo()
        return "told"

    def check(self, bench, own, kept):
        if kept:
            for look, args in ((own.redo, ()), (own.undo, ()), (own.undo, ()), (own.do, ("to 0 1 1",)), (own.do, ("to 0 0 1",)), (own.undo, ())):
                look(*args)
        check_bench(self, bench, own)
        check_both_ways(self, bench, own)

    def test_keep_true(self):
        bench, own = begun()
        self.assertEqual(bench.tried(self.look, keep=True), "told")
        self.check(bench, own, True)

    def test_other_values_of_keep(self):
        for value in NOT_TRUE + [value for value in strange() if value is not True]:
            bench, own = begun()
            self.assertEqual(bench.tried(self.look, keep=value), "told")
            self.check(bench, own, False)

    def test_without_keep(self):
        bench, own = begun()
        self.assertEqual(bench.tried(self.look), "told")
        self.check(bench, own, False)
        self.assertEqual(bench.tried(look=self.look), "told")
        self.check(bench, own, False)
        self.assertRaises(TypeError, bench.tried, self.look, True)
        self.check(bench, own, False)

    def test_keep_is_called(self):
        for first in (True, False):
            for value in (False, True, None, 1):
                bench, own = begun()

                def look(inner):
                    self.assertIs(inner, bench)
                    if first:
                        self.assertIsNone(inner.keep())
                    told = self.look(inner)
                    inner.keep()
                    inner.keep()
                    return told

                self.assertEqual(bench.tried(look, keep=value), "told")
                self.check(bench, own, True)
                assert_refused(self, NoBlock, None, bench.keep)

    def test_what_look_returns_comes_through(self):
        bench, own = begun()
        for value in strange() + [bench, [bench], self.look]:
            for keep in (True, False):
                self.assertIs(bench.tried(lambda inner: value, keep=keep), value)
        check_bench(self, bench, own)

    def test_what_look_raises_comes_through(self):
        for keep in (True, False, 1):
            for call_keep in (True, False):
                bench, own = begun()
                raised = Broken("x")

                def look(inner):
                    if call_keep:
                        inner.keep()
                    self.look(inner)
                    raise raised

                with self.assertRaises(Broken) as caught:
                    bench.tried(look, keep=keep)
                self.assertIs(caught.exception, raised)
                self.check(bench, own, False)
                assert_refused(self, NoBlock, None, bench.keep)

    def test_what_the_bench_refuses_within_it_comes_through(self):
        bench, own = begun()
        for keep in (True, False):
            for line, error, value in (("tool 9", NoTool, 9), ("to 0 0 1\ntool 9", NoTool, 9)):
                def look(inner):
                    inner.undo()
                    inner.do("to 0 0 2")
                    inner.do(line.split("\n")[-1])

                with self.assertRaises(error) as caught:
                    bench.tried(look, keep=keep)
                self.assertEqual(caught.exception.value, value)
                self.check(bench, own, False)

    def test_other_things_that_look_changes_stay(self):
        bench, own = begun()
        other, seen = begun()[0], []

        def look(inner):
            seen.append(len(seen))
            other.do("rem other")
            raise Broken(None)

        for _ in range(2):
            self.assertRaises(Broken, bench.tried, look)
        check_bench(self, bench, own)
        self.assertEqual((seen, other.deeds), ([0, 1], 5))


class Within(unittest.TestCase):
    def test_undo_goes_on_to_what_was_done_ahead_of_it(self):
        bench, own = begun()
        seen = []

        def look(inner):
            for _ in range(3):
                inner.undo()
                seen.append((inner.deeds, len(inner)))
            seen.append(refusal(inner.undo))
            for _ in range(5):
                inner.redo()
            seen.append(refusal(inner.redo))
            seen.append((inner.deeds, len(inner)))

        self.assertIsNone(bench.tried(look))
        self.assertEqual(seen, [(2, 1), (1, 1), (0, 0), ("NothingToUndo", None), ("NothingToRedo", None), (5, 2)])
        check_bench(self, bench, own)
        check_both_ways(self, bench, own)
        self.assertIsNone(bench.tried(look, keep=True))
        self.assertEqual((bench.deeds, len(bench)), (5, 2))
        assert_refused(self, NothingToRedo, None, bench.redo)

    def test_all_taken_back_and_kept(self):
        bench = begun()[0]

        def look(inner):
            while inner.deeds:
                inner.undo()
            inner.keep()

        bench.tried(look)
        self.assertEqual((bench.deeds, len(bench)), (0, 0))
        assert_refused(self, NothingToUndo, None, bench.undo)
        for _ in range(5):
            bench.redo()
        self.assertEqual(bench.deeds, 5)

    def test_keep_belongs_to_the_innermost(self):
        told = {}
        for outer in (False, True):
            for inner in (False, True):
                for ahead in (False, True):
                    bench = begun()[0]

                    def look(one):
                        if ahead and outer:
                            one.keep()
                        one.do("rem outer")
                        one.tried(within)
                        told[outer, inner, ahead] = one.deeds
                        if outer and not ahead:
                            one.keep()

                    def within(one):
                        one.do("rem inner")
                        if inner:
                            one.keep()

                    bench.tried(look)
                    self.assertEqual(told[outer, inner, ahead], 5 if inner else 4)
                    self.assertEqual(bench.deeds, (5 if inner else 4) if outer else 3)
                    rows = (["rem outer"] + ["rem inner"] * inner) * outer
                    self.assertEqual(journal(bench).split("\n")[11:], rows)
                    assert_refused(self, NoBlock, None, bench.keep)

    def test_an_inner_trial_that_fails(self):
        bench, own = begun()

        def fails(one):
            one.do("rem inner")
            one.keep()
            raise Broken(one.deeds)

        def look(one):
            one.do("rem outer")
            self.assertRaises(Broken, one.tried, fails, keep=True)
            self.assertEqual(one.deeds, 4)
            # Behind it this trial is the innermost one again.
            one.keep()
            one.do("rem more")

        bench.tried(look)
        for line in ("rem outer", "rem more"):
            own.do(line)
        check_bench(self, bench, own)

    def test_three_deep(self):
        bench, own = begun()

        def look(one, depth=3):
            one.do(f"rem {depth}")
            if depth:
                one.tried(lambda other: look(other, depth - 1), keep=depth != 2)

        bench.tried(look, keep=True)
        for line in ("rem 3", "rem 2"):
            own.do(line)
        check_bench(self, bench, own)

    def test_copies_are_outside_of_all_trials(self):
        bench, own = begun()
        kept = []

        def look(one):
            one.do("rem in")
            other = one.copy()
            assert_refused(self, NoBlock, None, other.keep)
            one.keep()
            assert_refused(self, NoBlock, None, other.keep)
            other.tried(lambda third: third.do("rem third"))
            other.do("rem other")
            kept.append(other)
            raise Broken(None)

        self.assertRaises(Broken, bench.tried, look)
        check_bench(self, bench, own)
        for line in ("rem in", "rem other"):
            own.do(line)
        check_bench(self, kept[0], own)
        assert_refused(self, NoBlock, None, kept[0].keep)

    def test_trials_of_two_benches(self):
        one, other = begun()[0], begun()[0]

        def look(bench):
            bench.do("rem one")
            other.tried(lambda inner: bench.keep() or inner.do("rem lost"))
            other.do("rem two")

        one.tried(look)
        self.assertEqual([journal(bench).split("\n")[11:] for bench in (one, other)], [["rem one"], ["rem two"]])


class ByChance(unittest.TestCase):
    """Trials in trials that do lines, undo, do again, keep, raise, on a bench and on an own one."""

    def within(self, chance, bench, own, depth):
        """What a look does to both; whether keep was called in it."""
        kept = False
        for _ in range(chance.randint(1, 7)):
            dice = chance.random()
            if dice < 0.12:
                bench.keep()
                kept = True
            elif dice < 0.2:
                raise Broken(kept)
            elif dice < 0.4 and depth < 3:
                self.trial(chance, bench, own, depth + 1)
            else:
                some_deed(self, chance, bench, own)
        return kept

    def trial(self, chance, bench, own, depth):
        state, before, keep, seen = own.state(), journal(bench), chance.choice([True, True] + NOT_TRUE), []

        def look(inner):
            self.assertIs(inner, bench)
            seen.append(self.within(chance, inner, own, depth))
            return seen

        try:
            self.assertIs(bench.tried(look, keep=keep), seen)
        except Broken:
            seen.clear()
        if not seen or not (seen[0] or keep is True):
            own.go_back(state)
            self.assertEqual(journal(bench), before)
        self.assertEqual(journal(bench), own.journal())

    def test_against_an_own_bench(self):
        chance = samples.some(151)
        for text in texts(152, 4):
            bench, own = new(text)
            for _ in range(14):
                some_deed(self, chance, bench, own)
                self.trial(chance, bench, own, 1)
                assert_refused(self, NoBlock, None, bench.keep)
            check_bench(self, bench, own)
            check_both_ways(self, bench, own)


class Refused(unittest.TestCase):
    def test_no_block_outside(self):
        bench = Bench(TEXT)
        for look in (lambda: None, lambda: bench.tried(lambda inner: inner.keep()), lambda: bench.tried(lambda inner: None, keep=True)):
            look()
            assert_refused(self, NoBlock, None, bench.keep)


if __name__ == "__main__":
    unittest.main()
