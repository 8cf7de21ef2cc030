"""Programs: MOVES, and their lines."""

from allitreaches.errors import BadMoves, BadProgram
from allitreaches.integers import integer_text, is_integer, read_integer
from allitreaches.points import is_of_halves, is_point, point_text, point_told


def _is_remark(value):
    """Whether any value is a string of printable ASCII signs, none too."""
    return isinstance(value, str) and all([" " <= sign <= "~" for sign in value])


def is_move(value):
    """Whether any value is a MOVE."""
    if not isinstance(value, tuple) or len(value) != 2:
        return False
    word, what = value
    if word == "tool":
        return is_integer(what) and what >= 0
    if word == "to":
        return is_point(what) and is_of_halves(what)
    return word == "rem" and _is_remark(what)


def move_told(line):
    """The MOVE that this line tells; None if it has none of the forms."""
    word, _, what = line.partition(" ")
    if word == "tool":
        move = (word, read_integer(what))
    elif word == "to":
        move = (word, point_told(what))
    else:
        move = (word, what)
    return move if is_move(move) else None


def _line_of(move):
    """The line that tells this MOVE."""
    word, what = move
    if word == "tool":
        return "tool " + integer_text(what)
    if word == "to":
        return "to " + point_text(what)
    return "rem " + what if what else "rem"


def read_program(text):
    """The MOVES of a program."""
    if not isinstance(text, str):
        raise BadProgram(0)
    moves = [move_told(line) for line in text.split("\n")] if text else []
    if None in moves:
        raise BadProgram(moves.index(None) + 1)
    return tuple(moves)


def program_text(moves):
    """The program with these MOVES."""
    if not isinstance(moves, tuple) or not all([is_move(move) for move in moves]):
        raise BadMoves(moves)
    return "\n".join([_line_of(move) for move in moves])
