"""Chains of accesses, and the places that the accesses of a way cover."""

from orderlymoves.base.values import is_name, is_number
from orderlymoves.errors import InvalidNumber, InvalidOperation
from orderlymoves.walk.ways import Way, chained

# The kinds of accesses that cover one of a kind.
COVERING = {"read": ("read", "write"), "write": ("write",)}


def covering(way, kind, cell, place):
    """The indices of the accesses of a way that cover an access of a kind to a cell at a place."""
    _check_way(way)
    _check_kind(kind)
    _check_cell(cell)
    _check_place(way, place)
    if cell in way.private:
        return ()
    return tuple([index for index in _indices(way, kind, cell) if _is_near(way.letters, way.accesses[index][2], place)])


def is_covered(way, kind, cell, place):
    """Whether a way covers an access of a kind to a cell at a place."""
    # A private cell is covered by the way as a whole, and so by no access of it.
    return covering(way, kind, cell, place) != () or cell in way.private


def covered_places(way, kind, cell):
    """The places at which a way covers an access of a kind to a cell."""
    _check_way(way)
    _check_kind(kind)
    _check_cell(cell)
    return tuple([place for place in range(len(way.letters) + 1) if is_covered(way, kind, cell, place)])


def chains(way, cell):
    """The chains of the accesses to a cell."""
    _check_way(way)
    _check_cell(cell)
    return _chains_for(way, "read", cell)


def write_chains(way, cell):
    """The chains of the writes to a cell."""
    _check_way(way)
    _check_cell(cell)
    return _chains_for(way, "write", cell)


def chain_at(way, cell, place):
    """The number of the chain that covers a read of a cell at a place, None if none does."""
    _check_way(way)
    _check_cell(cell)
    _check_place(way, place)
    if cell in way.private:
        return 1
    found = covering(way, "read", cell, place)
    for number, chain in enumerate(chains(way, cell), start=1):
        # All accesses that cover the read belong to one chain, so the first one tells it.
        if found != () and found[0] in chain:
            return number
    return None


def _chains_for(way, kind, cell):
    """The chains of the accesses that can cover one of a kind."""
    letters = () if cell in way.private else way.letters
    return chained(way.accesses, letters, _indices(way, kind, cell))


def _indices(way, kind, cell):
    """The indices of the accesses to a cell that can cover one of a kind."""
    return [at for at, access in enumerate(way.accesses) if access[0] in COVERING[kind] and access[1] == cell]


def _is_near(letters, at, place):
    """Whether an access at one place covers one at another place."""
    if at <= place:
        return all([letter[0] != "put" for letter in letters[at:place]])
    return all([letter[0] != "get" for letter in letters[place:at]])


def _check_way(value):
    if not isinstance(value, Way):
        raise InvalidOperation("a way is needed")


def _check_kind(value):
    if value not in ("read", "write"):
        raise InvalidOperation("a kind is read or write")


def _check_cell(value):
    if not is_name(value):
        raise InvalidOperation("a cell has a name")


def _check_place(way, value):
    if not is_number(value, 0, len(way.letters)):
        raise InvalidNumber(value)
