"""Benches beside the tests' own ones, and what is done to both."""

from allitreaches.benches import Bench
from allitreaches.journals import journal
from tests import samples
from tests.machines import check_standing, refusal, settings, sides_of, some_line
from tests.own_bench import OwnBench
from tests.own_drawing import plain_text, some_text


def texts(seed, many):
    """Drawings of some scenes, with `again` in some of them."""
    chance = samples.some(seed)
    rows = []
    for number, (part, stock, tools) in enumerate(settings(seed, many)):
        rows.append(plain_text(stock, part, tools) if number % 2 else some_text(chance, stock, part, tools))
    return rows


def new(text):
    """A bench and an own one, alike."""
    return Bench(text), OwnBench(text)


def check_bench(test, bench, own):
    """That the bench stands as the own one does."""
    test.assertEqual((bench.deeds, bench.drawing.text, journal(bench)), (len(own.done), own.text, own.journal()))
    mill = own.mill()
    test.assertEqual(len(bench), len(mill.turns))
    check_standing(test, bench.machine(), mill)


def check_both_ways(test, bench, own):
    """That all deeds can be undone, and all that were undone be done again, as on the own one; then it is as before."""
    bench, state = bench.copy(), own.state()
    many, more = len(own.done), len(own.undone)
    for _ in range(more + 1):
        test.assertEqual(refusal(bench.redo), own.redo())
        test.assertEqual(journal(bench), own.journal())
    for _ in range(many + more + 1):
        test.assertEqual(refusal(bench.undo), own.undo())
        test.assertEqual((bench.deeds, len(bench)), (len(own.done), len(own.mill().turns)))
    own.go_back(state)


def some_deed(test, chance, bench, own):
    """Does one thing to both of them: a line, undo or redo."""
    dice = chance.random()
    if dice < 0.2:
        test.assertEqual(refusal(bench.undo), own.undo())
    elif dice < 0.35:
        test.assertEqual(refusal(bench.redo), own.redo())
    else:
        mill = own.mill()
        line = some_line(chance, mill, sides_of(mill.part, mill.stock, mill.tools))
        test.assertEqual(refusal(bench.do, line), own.do(line), line)
