"""Journals: texts of what was done on a bench."""

from allitreaches.benches import Bench
from allitreaches.errors import BadDrawing, BadJournal, ReachError
from allitreaches.integers import integer_text, read_integer


def journal(bench):
    """The journal of a Bench: its DRAWING, and the lines of its deeds."""
    text = bench.drawing.text
    many = len(text.split("\n"))
    return "\n".join(["drawing " + integer_text(many), text, "deeds"] + bench.lines())


def _many_lines(line):
    """How many lines the DRAWING has, as the first line of a journal tells."""
    word, _, figures = line.partition(" ")
    many = read_integer(figures)
    if word != "drawing" or many is None or many < 1:
        raise BadJournal(1)
    return many


def _bench_of(lines):
    """A new Bench with the DRAWING of these lines."""
    try:
        return Bench("\n".join(lines))
    except BadDrawing:
        raise BadJournal(1) from None


def read_journal(text):
    """The Bench on which all was done that the journal tells."""
    if not isinstance(text, str):
        raise BadJournal(0)
    lines = text.split("\n")
    deeds = _many_lines(lines[0]) + 1
    if len(lines) < deeds:
        raise BadJournal(len(lines) + 1)
    bench = _bench_of(lines[1:deeds])
    if len(lines) == deeds or lines[deeds] != "deeds":
        raise BadJournal(deeds + 1)
    for number in range(deeds + 1, len(lines)):
        try:
            bench.do(lines[number])
        except ReachError:
            raise BadJournal(number + 1) from None
    return bench
