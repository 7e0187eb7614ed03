"""Ways: what a stretch does under told answers of tests."""

from orderlymoves.base.stretches import Stretch
from orderlymoves.base.values import is_answers, is_set, written
from orderlymoves.errors import InvalidOperation, InvalidStretch, Unanswered


def follow(stretch, answers, *, private=()):
    """The way of a stretch under answers: a dict from pairs of a test and a value to booleans."""
    check_stretch(stretch)
    if not is_answers(answers):
        raise InvalidOperation("answers are a dict from pairs of a test and a value to booleans")
    check_private(private)
    walk = Walk(answers, private)
    walk.go(stretch.code)
    if walk.lacking is not None:
        raise Unanswered(walk.lacking[0], walk.lacking[1])
    return Way(stretch, private, walk)


def ways(stretch, *, private=()):
    """All ways of a stretch; where a test is asked for the first time, yes comes ahead of no."""
    check_stretch(stretch)
    check_private(private)
    first = Walk({}, private)
    for walk in walks(first, stretch.code):
        yield Way(stretch, private, walk)


class Way:
    """What a stretch does under told answers. Ways are made by `follow` and `ways` alone."""

    def __init__(self, stretch, private, walk):
        self._stretch = stretch
        self._private = private
        self._answers = {pair: walk.asked[pair] for pair in sorted(walk.asked)}
        self._letters = tuple(walk.sent)
        self._accesses = tuple(walk.done)
        self._kept = {name: walk.worth(name) for name in stretch.keeps}
        self._left = _left_by(walk)

    @property
    def stretch(self):
        return self._stretch

    @property
    def private(self):
        return self._private

    @property
    def answers(self):
        return {pair: self._answers[pair] for pair in self._answers}

    @property
    def letters(self):
        return self._letters

    @property
    def accesses(self):
        return self._accesses

    @property
    def kept(self):
        return {name: self._kept[name] for name in self._kept}

    @property
    def left(self):
        return self._left

    def __len__(self):
        return len(self._accesses)

    def __eq__(self, other):
        return (
            isinstance(other, Way)
            and self._stretch == other._stretch
            and self._private == other._private
            and self._answers == other._answers
            and self._letters == other._letters
            and self._accesses == other._accesses
            and self._kept == other._kept
            and self._left == other._left
        )

    def __str__(self):
        return f"way of {len(self._answers)} answers, {len(self._letters)} letters, {len(self._accesses)} accesses"


class Walk:
    """A walk through code under told answers, with chains of its own. It ends early at a test without an answer."""

    def __init__(self, told, hidden):
        self.told = told
        self.hidden = hidden
        self.asked = {}
        self.lacking = None
        self.is_over = False
        self.worths = {}
        self.contents = {}
        self.latest = {}
        self.sent = []
        self.taken = 0
        self.done = []

    def again(self, answer):
        """A new walk, with an answer to the test that has none."""
        return Walk(self.further_told(answer), self.hidden)

    def further_told(self, answer):
        """The told answers and the one that is lacking."""
        further = {pair: self.told[pair] for pair in self.told}
        further[self.lacking] = answer
        return further

    def go(self, code):
        """Walks through the code."""
        ahead = list(code[::-1])
        while ahead and not self.is_over:
            statement = ahead.pop()
            if statement[0] == "if":
                ahead.extend(self.chosen(statement)[::-1])
            else:
                self.do(statement)

    def chosen(self, statement):
        """The code of an if that is done, empty if the test has no answer."""
        pair = (statement[1], self.worth(statement[2]))
        if pair not in self.told:
            self.lacking = pair
            self.is_over = True
            return ()
        self.asked[pair] = self.told[pair]
        return statement[3] if self.told[pair] else statement[4]

    def do(self, statement):
        """Does a statement that is no if."""
        word = statement[0]
        if word == "read":
            self.do_read(statement[1], statement[2])
        elif word == "write":
            self.do_write(statement[1], statement[2])
        elif word == "set":
            self.worths[statement[1]] = written(statement[2], [self.worth(name) for name in statement[3]])
        elif word == "copy":
            self.worths[statement[1]] = self.worth(statement[2])
        elif word == "get":
            self.do_get(statement[1])
        else:
            self.add_letter(("put", self.worth(statement[1])))

    def do_read(self, name, cell):
        """Reads a cell into a register, if the access has a chain."""
        chain = self.next_chain("read", cell)
        if chain is not None:
            self.worths[name] = self.content(cell, chain)
            self.done.append(("read", cell, len(self.sent), self.worths[name]))

    def do_write(self, cell, name):
        """Writes a register into a cell, if the access has a chain."""
        chain = self.next_chain("write", cell)
        if chain is not None:
            self.contents[(cell, chain)] = self.worth(name)
            self.done.append(("write", cell, len(self.sent), self.worth(name)))

    def do_get(self, name):
        """Gets the next letter into a register."""
        self.taken += 1
        self.worths[name] = f"get.{self.taken}"
        self.add_letter(("get", self.worths[name]))

    def add_letter(self, letter):
        self.sent.append(letter)

    def next_chain(self, kind, cell):
        """The number of the chain to which an access of a kind belongs if it comes next."""
        here = len(self.sent)
        chain, place = self.latest.get(cell, (1, here))
        if cell not in self.hidden and can_come_between(self.sent, place, here):
            chain += 1
        self.latest[cell] = (chain, here)
        return chain

    def worth(self, name):
        """The value of a register."""
        return self.worths.get(name, name)

    def content(self, cell, chain):
        """What was written last to a cell in a chain, or the unknown of the chain."""
        return self.contents.get((cell, chain), f"{cell}.{chain}")


def walks(first, code):
    """All walks through code that come by further answers from a first one: yes comes ahead of no."""
    ahead = [first]
    while ahead:
        walk = ahead.pop()
        walk.go(code)
        if walk.lacking is None:
            yield walk
        else:
            ahead.append(walk.again(False))
            ahead.append(walk.again(True))


def check_stretch(value):
    """Raises an error for what is no stretch."""
    if not isinstance(value, Stretch):
        raise InvalidStretch("a stretch is needed")


def check_private(value):
    """Raises an error for what is no set of private cells."""
    if not is_set(value):
        raise InvalidOperation("private cells are a set of names")


def can_come_between(letters, place, after):
    """Whether others can come between two places: a put stands there, and behind it a get."""
    kinds = [letter[0] for letter in letters[place:after]]
    return "put" in kinds and "get" in kinds[kinds.index("put"):]


def chained(accesses, letters, indices):
    """The indices of accesses to one cell, in chains: a chain ends where others can come between."""
    found = []
    for index in indices:
        if found and not can_come_between(letters, accesses[found[-1][-1]][2], accesses[index][2]):
            found[-1].append(index)
        else:
            found.append([index])
    return tuple([tuple(chain) for chain in found])


def _left_by(walk):
    """What a walk that has ended leaves, ascending, as the places of the write chains of a cell ascend."""
    found = []
    for cell in sorted({access[1] for access in walk.done}):
        if cell in walk.hidden:
            found.append((cell, len(walk.sent), walk.content(cell, 1)))
        else:
            found.extend(_left_in(walk, cell))
    return tuple(found)


def _left_in(walk, cell):
    """What the write chains of a cell leave, each up to the first put that others can take."""
    writes = [index for index, access in enumerate(walk.done) if access[:2] == ("write", cell)]
    lasts = [walk.done[chain[-1]] for chain in chained(walk.done, walk.sent, writes)]
    return [(cell, _next_put(walk.sent, last[2]), last[3]) for last in lasts]


def _next_put(letters, place):
    """The number of the first put behind a place, or the number of letters."""
    return min([at for at in range(place, len(letters)) if letters[at][0] == "put"], default=len(letters))
