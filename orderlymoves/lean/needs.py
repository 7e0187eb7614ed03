"""Straight stretches: which accesses each stretch in their place needs."""

from orderlymoves.base.stretches import stretch_of
from orderlymoves.base.values import atoms, spare_names
from orderlymoves.errors import InvalidOperation
from orderlymoves.walk.cover import chains, write_chains
from orderlymoves.walk.ways import check_private, check_stretch, follow


def needed_reads(stretch, *, private=()):
    """The unknowns of cells that are needed, as pairs of a cell and a number, ascending."""
    way = _only_way(stretch, private)
    return _needed(way)


def due_writes(stretch, *, private=()):
    """The left contents that are due, as triples of a cell, a place and a value, ascending."""
    way = _only_way(stretch, private)
    return tuple([triple for triple, last in _due(way)])


def fewest(stretch, *, private=()):
    """A dict from the cells of a stretch to pairs of the fewest reads and the fewest writes."""
    way = _only_way(stretch, private)
    return _fewest(way)


def least(stretch, *, private=()):
    """A straight stretch that may stand for a stretch, and has just the fewest reads and writes."""
    way = _only_way(stretch, private)
    if is_least(stretch, private=private):
        return stretch
    reads = [chains(way, cell)[number - 1][0] for cell, number in _needed(way)]
    writes = [last for triple, last in _due(way)]
    remade = Remade(stretch, way, reads + writes)
    for statement in stretch.code:
        remade.add_for(statement)
    remade.add_end()
    return stretch_of(tuple(remade.made), stretch.keeps)


def is_least(stretch, *, private=()):
    """Whether a stretch has just the fewest reads and writes."""
    way = _only_way(stretch, private)
    return _fewest(way) == {cell: (_many(way, "read", cell), _many(way, "write", cell)) for cell in stretch.cells}


class Remade:
    """The code of a straight stretch in the making, with a register of its own for each value that comes in.

    The registers of the stretch keep the values of the beginning until the end, so no value that is needed is lost.
    """

    def __init__(self, stretch, way, wanted):
        self.origin = stretch
        self.wanted = wanted
        self.made = []
        self.spares = spare_names(stretch.registers, stretch.size + len(stretch.keeps))
        self.filled = 0
        self.now_in = {}
        self.contents = {}
        self.reached = 0
        self.chain_of = _chain_numbers(way)

    def add_for(self, statement):
        """Adds what stands for a statement."""
        word = statement[0]
        if word == "read":
            self.add_read(statement[1], statement[2])
        elif word == "write":
            self.add_write(statement[1], statement[2])
        elif word == "copy":
            self.now_in[statement[1]] = self.place_of(statement[2])
        elif word == "put":
            self.made.append(("put", self.place_of(statement[1])))
        elif word == "get":
            self.made.append(("get", self.new_place(statement[1])))
        else:
            args = tuple([self.place_of(name) for name in statement[3]])
            self.made.append(("set", self.new_place(statement[1]), statement[2], args))

    def add_read(self, name, cell):
        """Adds a read if it is wanted; the others of its chain bring what is known by then."""
        key = (cell, self.chain_of[self.reached])
        if key in self.contents:
            self.now_in[name] = self.contents[key]
        else:
            self.contents[key] = self.new_place(name)
            if self.reached in self.wanted:
                self.made.append(("read", self.contents[key], cell))
        self.reached += 1

    def add_write(self, cell, name):
        """Adds a write if it is wanted."""
        self.contents[(cell, self.chain_of[self.reached])] = self.place_of(name)
        if self.reached in self.wanted:
            self.made.append(("write", cell, self.place_of(name)))
        self.reached += 1

    def add_end(self):
        """Adds what gives the kept registers their values."""
        changed = [name for name in self.origin.keeps if self.place_of(name) != name]
        for name in changed:
            source = self.place_of(name)
            # A register that is set here itself could be set before its value of the beginning is copied.
            if source in changed:
                self.made.append(("copy", self.new_place(name), source))
        self.made.extend([("copy", name, self.place_of(name)) for name in changed])

    def place_of(self, name):
        """The register that has the value that a register of the stretch has by now."""
        return self.now_in.get(name, name)

    def new_place(self, name):
        """A register that nothing has used so far, for the value that a register of the stretch gets."""
        self.now_in[name] = self.spares[self.filled]
        self.filled += 1
        return self.now_in[name]


def _only_way(stretch, private):
    """The way of a straight stretch."""
    check_stretch(stretch)
    check_private(private)
    if not stretch.is_straight:
        raise InvalidOperation("a stretch without tests is needed")
    return follow(stretch, {}, private=private)


def _cells_of(way):
    """The cells to which a way has an access, ascending."""
    return sorted({access[1] for access in way.accesses})


def _chain_numbers(way):
    """A dict from the index of each access to the number of its chain."""
    return {
        index: number
        for cell in _cells_of(way)
        for number, chain in enumerate(chains(way, cell), start=1)
        for index in chain
    }


def _due(way):
    """All left contents that are due, ascending, each with the index of the last write of its chain of writes."""
    found = []
    chain_of = _chain_numbers(way)
    contents = {}
    for cell in _cells_of(way):
        triples = [triple for triple in way.left if triple[0] == cell]
        # A private cell that is not written has content at the end, too, but no chain of writes.
        for triple, row in zip(triples, write_chains(way, cell)):
            number = chain_of[row[-1]]
            if triple[2] != contents.get((cell, number), f"{cell}.{number}"):
                found.append((triple, row[-1]))
            contents[(cell, number)] = triple[2]
    return found


def _needed(way):
    """The unknowns of cells that are needed, as pairs of a cell and a number, ascending."""
    kept = way.kept
    values = [letter[1] for letter in way.letters if letter[0] == "put"]
    values.extend([kept[name] for name in kept])
    values.extend([triple[2] for triple, last in _due(way)])
    pairs = [atom.partition(".") for value in values for atom in atoms(value)]
    return tuple(sorted({(head, int(number)) for head, dot, number in pairs if dot and head != "get"}))


def _fewest(way):
    """The fewest reads and writes of each cell of the stretch of a way."""
    reads = [cell for cell, number in _needed(way)]
    writes = [triple[0] for triple, last in _due(way)]
    return {cell: (reads.count(cell), writes.count(cell)) for cell in way.stretch.cells}


def _many(way, kind, cell):
    """How many accesses of a kind to a cell a way has."""
    return len([access for access in way.accesses if access[:2] == (kind, cell)])
