"""Witnesses: programs of two threads that show that a stretch may not stand for another one."""

from orderlymoves.base.statements import flattened, names_in, used_first
from orderlymoves.base.stretches import is_bounded, is_kept
from orderlymoves.base.values import is_answers, is_contents, spare_names
from orderlymoves.errors import InvalidOperation, InvalidProgram, InvalidStretch
from orderlymoves.judge.cases import WalkBeside, check_pair
from orderlymoves.judge.stand import fault
from orderlymoves.play.programs import Program, is_thread_code
from orderlymoves.play.states import calm_outcome
from orderlymoves.walk.cover import chains
from orderlymoves.walk.ways import check_stretch

# The register that a partner, and the code behind, use for all that they do.
HAND = "m"


class Surrounding:
    """What stands around a stretch in a program of two threads."""

    def __init__(self, partner, behind, cells, answers):
        if not is_thread_code(partner):
            raise InvalidProgram("the partner has code as a thread has")
        if not is_thread_code(behind):
            raise InvalidProgram("behind the stretch stands code as a thread has")
        if not is_contents(cells):
            raise InvalidProgram("cells are a dict from names to values")
        if not is_answers(answers):
            raise InvalidProgram("answers are a dict from pairs of a test and a value to booleans")
        self._partner = partner
        self._behind = behind
        self._cells = {name: cells[name] for name in sorted(cells)}
        self._answers = {pair: answers[pair] for pair in sorted(answers)}

    @property
    def partner(self):
        return self._partner

    @property
    def behind(self):
        return self._behind

    @property
    def cells(self):
        return {name: self._cells[name] for name in self._cells}

    @property
    def answers(self):
        return {pair: self._answers[pair] for pair in self._answers}

    def __eq__(self, other):
        return (
            isinstance(other, Surrounding)
            and self._partner == other._partner
            and self._behind == other._behind
            and self._cells == other._cells
            and self._answers == other._answers
        )

    def __str__(self):
        return f"surrounding of {len(flattened(self._partner))} and {len(flattened(self._behind))} statements"


def surrounded(stretch, surrounding):
    """The program of a thread with the stretch and what stands behind it, and of its partner."""
    check_stretch(stretch)
    if not isinstance(surrounding, Surrounding):
        raise InvalidOperation("a surrounding is needed")
    threads = (stretch.code + surrounding.behind, surrounding.partner)
    return Program(threads, cells=surrounding.cells, answers=surrounding.answers)


def witness(one, other, *, private=()):
    """A witness that the second stretch may not stand for the first one, None if it may."""
    check_pair(one, other, private)
    _check_bounds(one)
    _check_bounds(other)
    case = fault(one, other, private=private)
    if case is None:
        return None
    partner = Partner(case.way, one.cells + other.cells + private)
    behind = _told_apart(partner, case, other)
    return Surrounding(tuple(partner.made), behind, partner.supplied, case.answers)


def is_witness(one, other, value, *, private=()):
    """Whether the value is a witness that the second stretch may not stand for the first one."""
    check_pair(one, other, private)
    return isinstance(value, Surrounding) and _is_fair(one, value, private) and _is_seen(one, other, value)


class Partner:
    """The code of a partner that goes along with a way, in the making.

    It brings just the values that the way is told with, so that a stretch does beside it what it does in its case.
    """

    def __init__(self, way, used):
        self.along = way
        self.made = []
        self.supplied = {}
        self.refills = _refills(way)
        # A value is brought for each get at most, and for each chain but the first one of a cell.
        self.spares = spare_names(used, len(way.letters) + len(way.accesses))

    def keep_pace(self, until):
        """Takes and sends the letters of the way up to a number, and writes the cells between its chains."""
        for number, letter in enumerate(self.along.letters[:until]):
            for cell, value in self.refills.get(number, ()):
                self.bring(value)
                self.made.append(("write", cell, HAND))
            if letter[0] == "put":
                self.made.append(("get", HAND))
            else:
                self.bring(letter[1])
                self.made.append(("put", HAND))

    def bring(self, value):
        """Reads a value from a cell that nobody else touches."""
        cell = self.spares[len(self.supplied)]
        self.supplied[cell] = value
        self.made.append(("read", HAND, cell))


def _told_apart(partner, case, other):
    """Lets a partner come to the fault of a case, and returns the code behind that helps to see it."""
    kind, *where = case.fault
    if kind == "bare":
        partner.keep_pace(len(case.letters))
        partner.made.append(_clashing_step(case, other))
        return ()
    if kind == "register":
        partner.keep_pace(len(case.letters))
        return (("show", where[0]),)
    if kind == "letter":
        # Either a letter comes that differs or should not be there, or the end is reached by one stretch alone.
        partner.keep_pace(where[0])
        partner.made.extend([("get", HAND), ("show", HAND)])
        return (("set", HAND, "f", ()), ("show", HAND))
    look = (("read", HAND, where[0]), ("show", HAND))
    if where[1] == len(case.way.letters):
        partner.keep_pace(where[1])
        return look
    partner.keep_pace(where[1] + 1)
    partner.made.extend(look)
    return ()


def _clashing_step(case, other):
    """The step of a partner that clashes with the bare access of a case."""
    walk = WalkBeside(case.way, case.answers)
    walk.go(other.code)
    kind, cell = walk.refused
    return ("read", HAND, cell) if kind == "write" else ("write", cell, HAND)


def _refills(way):
    """What a partner writes ahead of the letters of a way: pairs of a cell and the unknown of its next chain."""
    found = {}
    for cell in sorted({access[1] for access in way.accesses if access[1] not in way.private}):
        for number, ahead in enumerate(chains(way, cell)[:-1], start=2):
            place = way.accesses[ahead[-1]][2]
            found.setdefault(_return_behind(way, place), []).append((cell, f"{cell}.{number}"))
    return found


def _return_behind(way, place):
    """The number of the first get behind the first put behind a place: others can come ahead of it."""
    kinds = [letter[0] for letter in way.letters]
    return kinds.index("get", kinds.index("put", place))


def _check_bounds(stretch):
    if not is_bounded(stretch.code) or not is_kept(stretch.keeps):
        raise InvalidStretch("a witness is made for stretches within the bounds")


def _is_fair(one, surrounding, private):
    """Whether what stands around a stretch leaves alone what it has to."""
    touched = names_in(surrounding.partner, "cell")
    used = used_first(surrounding.behind)
    return all([cell not in private for cell in touched]) and all([name in one.keeps for name in used])


def _is_seen(one, other, surrounding):
    """Whether an orderly program with the first stretch shows another thing, or is not orderly, with the second."""
    if not all([is_thread_code(stretch.code + surrounding.behind) for stretch in (one, other)]):
        return False
    shown = calm_outcome(surrounded(one, surrounding))
    return shown is not None and calm_outcome(surrounded(other, surrounding)) != shown
