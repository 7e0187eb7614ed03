"""Cases: what a second stretch does beside the ways of a first one, and the faults that it makes."""

from orderlymoves.errors import InvalidOperation
from orderlymoves.walk.cover import chain_at, covering, is_covered
from orderlymoves.walk.ways import Walk, check_private, check_stretch, walks, ways


def cases(one, other, *, private=()):
    """All cases of two stretches, in the order of the ways of the first one; yes comes ahead of no."""
    check_pair(one, other, private)
    for way in ways(one, private=private):
        first = WalkBeside(way, way.answers)
        for walk in walks(first, other.code):
            yield Case(way, walk)


def check_pair(one, other, private):
    """Raises the errors of `cases`."""
    check_stretch(one)
    check_stretch(other)
    check_private(private)
    if one.keeps != other.keeps:
        raise InvalidOperation("both stretches keep the same registers")


class Case:
    """A way, and the walk of a second stretch beside it. Cases are made by `cases` alone."""

    def __init__(self, way, walk):
        self._way = way
        # A walk is told the answers of the way, and then just those that it asks further.
        self._answers = {pair: walk.told[pair] for pair in sorted(walk.told)}
        self._fault = walk.wrong
        self._accesses = tuple(walk.done)
        self._letters = tuple(walk.sent)
        self._covers = tuple([covering(way, access[0], access[1], access[2]) for access in walk.done])

    @property
    def way(self):
        return self._way

    @property
    def answers(self):
        return {pair: self._answers[pair] for pair in self._answers}

    @property
    def fault(self):
        return self._fault

    @property
    def accesses(self):
        return self._accesses

    @property
    def letters(self):
        return self._letters

    @property
    def covers(self):
        return self._covers

    def __eq__(self, other):
        return (
            isinstance(other, Case)
            and self._way == other._way
            and self._answers == other._answers
            and self._fault == other._fault
            and self._accesses == other._accesses
            and self._letters == other._letters
            and self._covers == other._covers
        )

    def __str__(self):
        found = _fault_text(self._fault)
        return f"case of {len(self._answers)} answers, {len(self._accesses)} accesses, {found}"


class WalkBeside(Walk):
    """A walk beside a way, whose chains are those of the way. It ends with its first fault."""

    def __init__(self, along, told):
        Walk.__init__(self, told, along.private)
        self.along = along
        self.wrong = None
        self.refused = None

    def again(self, answer):
        return WalkBeside(self.along, self.further_told(answer))

    def go(self, code):
        super().go(code)
        if not self.is_over:
            self.come_to_end()

    def add_letter(self, letter):
        number = len(self.sent)
        # The slice is empty if the way has no such letter.
        if self.along.letters[number:number + 1] != (letter,):
            self.stop(("letter", number))
            return
        self.sent.append(letter)
        if letter[0] == "put":
            self.check_contents(self.contents_at(number))

    def next_chain(self, kind, cell):
        if not is_covered(self.along, kind, cell, len(self.sent)):
            self.stop(("bare", len(self.done)))
            self.refused = (kind, cell)
            return None
        return chain_at(self.along, cell, len(self.sent))

    def contents_at(self, place):
        """What the way leaves at a place."""
        return [triple for triple in self.along.left if triple[1] == place]

    def check_contents(self, triples):
        """Stops at the first cell whose content is another one than is told."""
        for cell, place, told in triples:
            # All accesses that cover a read at this place belong to the chain of the write that left the content.
            if self.content(cell, chain_at(self.along, cell, place)) != told:
                self.stop(("content", cell, place))
                return

    def come_to_end(self):
        """Looks for the faults that can only be seen at the end of the code."""
        number = len(self.sent)
        if number < len(self.along.letters):
            self.stop(("letter", number))
            return
        self.check_contents(self.contents_at_end())
        if not self.is_over:
            self.check_kept()

    def contents_at_end(self):
        """What the way leaves at its end, and what private cells have to which it has no access."""
        number = len(self.along.letters)
        found = self.contents_at(number)
        known = [triple[0] for triple in found]
        found.extend([(cell, number, f"{cell}.1") for cell in self.hidden if cell not in known])
        return sorted(found)

    def check_kept(self):
        """Stops at the first kept register that has another value."""
        kept = self.along.kept
        for name in kept:
            if self.worth(name) != kept[name]:
                self.stop(("register", name))
                return

    def stop(self, fault):
        self.wrong = fault
        self.is_over = True


def _fault_text(fault):
    if fault is None:
        return "no fault"
    members = " ".join([str(member) for member in fault])
    return f"fault {members}"
