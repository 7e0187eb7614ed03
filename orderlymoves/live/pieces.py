"""Pieces of programs, and what can be put into their places."""

from orderlymoves.base.statements import flattened, names_in, used_first
from orderlymoves.base.stretches import stretch_of
from orderlymoves.base.values import is_number
from orderlymoves.errors import InvalidNumber, InvalidOperation, Refused
from orderlymoves.judge.stand import fault
from orderlymoves.play.programs import check_thread
from orderlymoves.play.states import check_program
from orderlymoves.walk.ways import check_stretch


def piece(program, thread, start, end):
    """The stretch of the statements from one position of a thread up to another one."""
    _check_piece(program, thread, start, end)
    return _stretch_at(program.threads[thread], start, end)


def private_cells(program, thread):
    """The cells of a program on which no other thread has a statement."""
    check_program(program)
    check_thread(program, thread)
    touched = cells_of_others(program, thread)
    return tuple([cell for cell in program.names if cell not in touched])


def exchanged(program, thread, start, end, stretch):
    """The program in which the code of a stretch stands in the place of a piece."""
    _check_piece(program, thread, start, end)
    check_stretch(stretch)
    code = program.threads[thread]
    one = _stretch_at(code, start, end)
    other = stretch_of(stretch.code, one.keeps)
    touched = cells_of_others(program, thread)
    private = tuple([cell for cell in (one + other).cells if cell not in touched])
    check_standing(one, other, private)
    return program.with_code(thread, code[:start] + stretch.code + code[end:])


def check_standing(one, other, private):
    """Raises an error if the second stretch may not stand for the first one."""
    case = fault(one, other, private=private)
    if case is not None:
        raise Refused(case.fault)


def check_position(code, value, low=0):
    """Raises an error for what is no position of code from a low one on."""
    if not is_number(value, low, len(code)):
        raise InvalidNumber(value)


def cells_of_others(program, thread):
    """The cells on which other threads of a program have a statement."""
    return names_in(tuple([
        statement for at, code in enumerate(program.threads) if at != thread for statement in code
    ]), "cell")


def _check_piece(program, thread, start, end):
    check_program(program)
    check_thread(program, thread)
    check_position(program.threads[thread], start)
    check_position(program.threads[thread], end, start)


def _stretch_at(code, start, end):
    """The stretch of a piece of code: it keeps the registers that are used behind it."""
    if any([statement[0] == "show" for statement in flattened(code[start:end])]):
        raise InvalidOperation("a stretch has no show")
    return stretch_of(code[start:end], used_first(code[end:]))
