"""Stretches: code of one thread, with the registers that are used behind it."""

from orderlymoves.base.statements import flattened, is_nested_code, most_on_path, names_in, renamed_code
from orderlymoves.base.values import is_name, is_number, is_set
from orderlymoves.errors import InvalidNumber, InvalidOperation, InvalidStretch

MAX_STATEMENTS = 24
MAX_CELLS = 4
MAX_KEPT = 4
MAX_LETTERS_SENT = 6
MAX_SETS = 6
MAX_TESTS = 3

MAX_DEPTH = 3


def is_code(value):
    """Whether the value is code without `show`, of any size, with ifs nested at most three deep."""
    return is_nested_code(value, MAX_DEPTH)


class Stretch:
    """Code of one thread, and the set of its kept registers."""

    def __init__(self, code, keeps=()):
        if not is_code(code):
            raise InvalidStretch("a stretch has code without show")
        if not is_bounded(code):
            raise InvalidStretch("the code passes a bound")
        if not is_kept(keeps):
            raise InvalidStretch("a stretch keeps a set of at most four names")
        self._code = code
        self._keeps = keeps

    @property
    def code(self):
        return self._code

    @property
    def keeps(self):
        return self._keeps

    @property
    def cells(self):
        return names_in(self._code, "cell")

    @property
    def registers(self):
        return tuple(sorted(set(names_in(self._code, "register") + self._keeps)))

    @property
    def functions(self):
        return names_in(self._code, "function")

    @property
    def tests(self):
        return names_in(self._code, "test")

    @property
    def is_straight(self):
        return all([statement[0] != "if" for statement in self._code])

    @property
    def size(self):
        return len(flattened(self._code))

    def renamed(self, *, cells=None, registers=None):
        """The stretch with the names that dicts give to its cells and its registers."""
        new_cells = _new_names(self.cells, cells)
        new_registers = _new_names(self.registers, registers)
        keeps = tuple(sorted([new_registers[name] for name in self._keeps]))
        return stretch_of(renamed_code(self._code, new_cells, new_registers), keeps)

    def keeping(self, names):
        """The stretch with the same code that keeps a set of names."""
        if not is_kept(names):
            raise InvalidOperation("a stretch keeps a set of at most four names")
        return stretch_of(self._code, names)

    def __add__(self, other):
        if not isinstance(other, Stretch):
            raise InvalidStretch("only a stretch can stand behind a stretch")
        return stretch_of(self._code + other._code, other._keeps)

    def __getitem__(self, at):
        if not is_number(at, 0, len(self._code) - 1):
            raise InvalidNumber(at)
        return self._code[at]

    def __iter__(self):
        raise TypeError("a stretch is not iterated over")

    def __len__(self):
        return len(self._code)

    def __contains__(self, x):
        return x in self.cells

    def __eq__(self, other):
        return isinstance(other, Stretch) and self._code == other._code and self._keeps == other._keeps

    def __str__(self):
        return f"stretch of {self.size} statements, {len(self.cells)} cells, {len(self._keeps)} kept"


def stretch_of(code, keeps):
    """A stretch that may pass the bounds, as functions of the package return them."""
    made = Stretch(())
    made._code = code
    made._keeps = keeps
    return made


def is_bounded(code):
    """Whether code is as small as that of a stretch that is passed to `Stretch`."""
    return (
        len(flattened(code)) <= MAX_STATEMENTS
        and len(names_in(code, "cell")) <= MAX_CELLS
        and most_on_path(code, "letter") <= MAX_LETTERS_SENT
        and most_on_path(code, "set") <= MAX_SETS
        and most_on_path(code, "if") <= MAX_TESTS
    )


def is_kept(value):
    """Whether the value is a set of as many names as a stretch that is passed to `Stretch` keeps."""
    return is_set(value) and len(value) <= MAX_KEPT


def _new_names(names, told):
    """A dict from the names to their new names: those that are told, or the same ones."""
    if told is None:
        return {name: name for name in names}
    if not _is_renaming(names, told):
        raise InvalidOperation("a dict from just these names to different names is needed")
    return {name: told[name] for name in names}


def _is_renaming(names, told):
    return (
        isinstance(told, dict)
        and len(told) == len(names)
        and all([name in told for name in names])
        and all([is_name(told[name]) for name in names])
        and len({told[name] for name in names}) == len(names)
    )
