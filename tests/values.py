"""Values that the tests hand in, and how they look at what is refused."""

from allitreaches.boxes import volume
from allitreaches.errors import BadBox, ReachError


def nested(core, depth, wrap):
    """core, wrapped depth times."""
    for _ in range(depth):
        core = wrap(core)
    return core


def strange():
    """Values of all kinds, none of which is a POINT, a BOX, a corner, some BOXES or the text of one."""
    return [
        None, True, False, 0, 1, -7, 10 ** 9, "", " ", "0", "none", "x y z",
        (), [], {}, (None,), [()], {"x": 0}, {0: (0, 1)}, ((),), ((), (), ()), ((),) * 6,
        (0, 1), (0, 1, 2, 3), (0, 1, 0, 1, 0), (0, 1, 0, 1, 0, 1, 0), (None,) * 3, (None,) * 6,
        ("0",) * 3, ("0", "1") * 3, (True,) * 3, (False, True) * 3, [0, 0, 0], [0, 1, 0, 1, 0, 1],
        ([0, 1],) * 3, [(0, 1)] * 3, {(0, 1): 0, (1, 1): 0, (2, 1): 0}, dict.fromkeys(range(6)),
        nested(0, 60, lambda core: (core,)), nested((), 60, lambda core: [core]),
        nested(None, 60, lambda core: {"core": core}), nested((0, 1), 59, lambda core: (core, 1)),
        ReachError(None), BadBox((0, 1, 0, 1, 0, 1)), (BadBox(()),) * 3, (ReachError(0),) * 6,
    ]


def replaced(row, at, value):
    """The tuple with another value at this place."""
    return row[:at] + (value,) + row[at + 1:]


def assert_refused(test, error, value, look, /, *args, **named):
    """That look raises just this error, with the very value."""
    with test.assertRaises(ReachError) as caught:
        look(*args, **named)
    test.assertIs(type(caught.exception), error)
    test.assertIs(caught.exception.value, value)


def greater(many):
    """An integer above 0 with more figures than many, as told: a volume of a volume of .."""
    number = 987654321
    while number < 10 ** many:
        number = volume((-number, number, 1 - number, number, 0, number))
    return number
