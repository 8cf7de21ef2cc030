"""Programs that leave just what no turns take, with the fewest changes of TOOLS."""

from allitreaches.errors import BadProgram, Stopped
from allitreaches.halves import Milling
from allitreaches.lines import steps_to, straightened
from allitreaches.machine import halved, Machine
from allitreaches.paths import path
from allitreaches.places import Scene
from allitreaches.programs import program_text
from allitreaches.rounds import fewest, least
from allitreaches.taking import behind


def _places(scene, stands, tool):
    """The POINTS to which the TOOL goes on from its beginning in a whole TURN."""
    start = Milling(scene.part, scene.stock, tool).beginning()
    row = path(scene, stands, tool)
    # No place that is outside is lower than the beginning: so these steps are outside, too.
    return straightened([start] + steps_to(start, row[0]) + list(row))[1:]


def program_of(part, stock, tools):
    """A program that leaves just what least tells, with as few TOOLS brought in as can be."""
    scene = Scene(part, stock)
    moves = []
    stands = scene.stands
    for number in fewest(scene, tools):
        moves.append(("tool", number))
        moves.extend([("to", place) for place in _places(scene, stands, tools[number])])
        stands = behind(scene, stands, tools[number])
    return program_text(tuple(moves))


def shows_program_of(part, stock, tools, value):
    """Whether program_of may tell this value."""
    machine = Machine(part, stock, tools)
    try:
        machine.run(value)
    except (BadProgram, Stopped):
        return False
    scene = Scene(part, stock)
    return len(machine.turns) == len(fewest(scene, tools)) and machine.lot() == halved(least(scene, tools))
