"""The errors of the package."""


class MoveError(ValueError):
    """What all errors for a wrong argument of this package are."""

    def __init__(self, why=""):
        ValueError.__init__(self, why)


class InvalidValue(MoveError):
    """What should be a value is none."""


class InvalidStretch(MoveError):
    """What should be a stretch is none, or passes its bounds."""


class InvalidProgram(MoveError):
    """What should be a program is none, or passes its bounds."""


class InvalidOperation(MoveError):
    """An argument cannot be used for this call."""


class ParseError(MoveError):
    """A line of a text cannot stand there; `line` is None if there is no text."""

    def __init__(self, line):
        MoveError.__init__(self, line)
        self.line = _copied(line)


class UnknownName(KeyError):
    """There is nothing of this name."""

    def __init__(self, name):
        KeyError.__init__(self, name)
        self.name = _copied(name)


class Unanswered(LookupError):
    """A test is asked for a value, and no answer is told."""

    def __init__(self, test, value):
        LookupError.__init__(self, test, value)
        self.test = _copied(test)
        self.value = _copied(value)


class InvalidNumber(RuntimeError):
    """A number cannot be used for this call."""

    def __init__(self, value):
        RuntimeError.__init__(self, value)
        self.value = _copied(value)


class TooMany(OverflowError):
    """There are more states than a limit allows."""

    def __init__(self, limit):
        OverflowError.__init__(self, limit)
        self.limit = _copied(limit)


class NothingToUndo(IndexError):
    """So many changes cannot be taken back, or done again."""

    def __init__(self, many):
        IndexError.__init__(self, many)
        self.many = _copied(many)


class Refused(ArithmeticError):
    """A stretch may not stand for another one; `reason` is the fault."""

    def __init__(self, reason):
        ArithmeticError.__init__(self, reason)
        self.reason = _copied(reason)


def _copied(value):
    """The value, with lists and dicts of its own: a caller may still change those that were passed."""
    if isinstance(value, list):
        return [_copied(part) for part in value]
    if isinstance(value, tuple):
        return tuple([_copied(part) for part in value])
    if isinstance(value, dict):
        return {key: _copied(value[key]) for key in value}
    return value
