"""All states to which a program can come."""

from orderlymoves.errors import InvalidOperation, InvalidProgram, TooMany
from orderlymoves.play.programs import Program, first_moment, is_order, moment_after

MAX_STATES = 4000


def states(program):
    """The number of states to which a program can come."""
    return len(_reached(program))


def clash(program):
    """An order after which two threads clash, None if there is none."""
    return _first_clash(_reached(program))


def is_clash(program, value):
    """Whether the value is an order after which two threads clash."""
    check_program(program)
    if not is_order(value, len(program)):
        return False
    moment = moment_after(program, value)
    return moment is not None and moment.clashes() != ()


def is_orderly(program):
    """Whether two threads never clash."""
    return clash(program) is None


def ends(program):
    """All different rows that are shown at an end, ascending."""
    return _shown_at_ends(_reached(program))


def end_order(program, shown):
    """An order that leads to an end with these rows."""
    for moment, order in _reached(program):
        if moment.movable() == () and moment.seen() == shown:
            return order
    raise InvalidOperation("there is no end with these rows")


def outcome(program):
    """The rows that an orderly program shows."""
    reached = _reached(program)
    if _first_clash(reached) is not None:
        raise InvalidOperation("the program is not orderly")
    return _shown_at_ends(reached)[0]


def calm_outcome(program):
    """The rows that an orderly program shows, None if the program is not orderly; of any number of states."""
    moment = first_moment(program)
    level = {(0,) * len(program): moment}
    # As long as none clashes, all runs with equally many steps of each thread come to one state.
    while level:
        moments = list(level.values())
        if any([moment.clashes() for moment in moments]):
            return None
        level = _next_level(level)
    return moments[0].seen()


def check_program(value):
    """Raises an error for what is no program."""
    if not isinstance(value, Program):
        raise InvalidProgram("a program is needed")


def _next_level(level):
    """The moments behind one step more, by the numbers of steps of all threads."""
    found = {}
    for steps in level:
        for thread in level[steps].movable():
            after = steps[:thread] + (steps[thread] + 1,) + steps[thread + 1:]
            if after not in found:
                found[after] = level[steps].stepped(thread)
    return found


def _reached(program):
    """All states to which a program can come, each as a moment and an order that leads to it."""
    check_program(program)
    first = first_moment(program)
    known = {first.identity(): True}
    found = [(first, ())]
    at = 0
    while at < len(found):
        moment, order = found[at]
        at += 1
        for thread in moment.movable():
            after = moment.stepped(thread)
            identity = after.identity()
            if identity not in known:
                if len(found) == MAX_STATES:
                    raise TooMany(MAX_STATES)
                known[identity] = True
                found.append((after, order + (thread,)))
    return found


def _first_clash(reached):
    """The order of the first state in which two threads clash."""
    for moment, order in reached:
        if moment.clashes() != ():
            return order
    return None


def _shown_at_ends(reached):
    return tuple(sorted({moment.seen() for moment, order in reached if moment.movable() == ()}))
