"""Single changes of a stretch: statements that are dropped, doubled or moved."""

from orderlymoves.base.statements import codes_in, flattened
from orderlymoves.base.stretches import stretch_of
from orderlymoves.base.values import is_number
from orderlymoves.errors import InvalidNumber
from orderlymoves.judge.stand import may_stand
from orderlymoves.walk.ways import check_private, check_stretch


def without(stretch, index):
    """The stretch without a statement, and without those in it."""
    _check_index(stretch, index)
    return _changed(stretch, index, lambda code, at: code[:at] + code[at + 1:])


def doubled(stretch, index):
    """The stretch in which a statement stands twice, one behind the other."""
    _check_index(stretch, index)
    return _changed(stretch, index, lambda code, at: code[:at + 1] + code[at:])


def moved(stretch, index, by):
    """The stretch in which a statement has moved by so many places within its code."""
    _check_index(stretch, index)
    _check_by(stretch, index, by)
    return _changed(stretch, index, lambda code, at: _with_moved(code, at, at + by))


def can_drop(stretch, index, *, private=()):
    """Whether the stretch without a statement may stand for it."""
    return may_stand(stretch, without(stretch, index), private=private)


def can_double(stretch, index, *, private=()):
    """Whether the stretch in which a statement stands twice may stand for it."""
    return may_stand(stretch, doubled(stretch, index), private=private)


def can_move(stretch, index, by, *, private=()):
    """Whether the stretch in which a statement has moved may stand for it."""
    return may_stand(stretch, moved(stretch, index, by), private=private)


def drops(stretch, *, private=()):
    """The indices of all statements that can be dropped, ascending."""
    check_stretch(stretch)
    check_private(private)
    return tuple([index for index in range(stretch.size) if can_drop(stretch, index, private=private)])


def moves(stretch, *, private=()):
    """All pairs of an index and the places by which the statement can be moved, ascending."""
    check_stretch(stretch)
    check_private(private)
    for index, (before, behind) in enumerate(_rooms(stretch.code)):
        for by in range(-before, behind + 1):
            if by != 0 and can_move(stretch, index, by, private=private):
                yield (index, by)


def _changed(stretch, index, change):
    """The stretch in which the code around a statement has changed."""
    return stretch_of(_changed_code(stretch.code, index, change), stretch.keeps)


def _changed_code(code, index, change):
    """Code in which `change` was made where the statement of an index stands."""
    first = 0
    for at, statement in enumerate(code):
        behind = first + len(flattened((statement,)))
        if index == first:
            return change(code, at)
        if index < behind:
            return code[:at] + (_changed_if(statement, index - first - 1, change),) + code[at + 1:]
        first = behind
    return code


def _changed_if(statement, index, change):
    """An if in which `change` was made in one of its codes."""
    word, test, name, yes, no = statement
    many = len(flattened(yes))
    if index < many:
        return (word, test, name, _changed_code(yes, index, change), no)
    return (word, test, name, yes, _changed_code(no, index - many, change))


def _with_moved(code, at, to):
    """Code in which the statement at one position stands at another one."""
    rest = code[:at] + code[at + 1:]
    return rest[:to] + (code[at],) + rest[to:]


def _rooms(code):
    """For each statement how many stand before it and behind it in its own code, in the order of the indices."""
    found = []
    for at, statement in enumerate(code):
        found.append((at, len(code) - at - 1))
        for inner in codes_in(statement):
            found.extend(_rooms(inner))
    return found


def _check_index(stretch, index):
    check_stretch(stretch)
    if not is_number(index, 0, stretch.size - 1):
        raise InvalidNumber(index)


def _check_by(stretch, index, by):
    before, behind = _rooms(stretch.code)[index]
    if not is_number(by, -before, behind) or by == 0:
        raise InvalidNumber(by)
