"""A desk: an orderly program that is rewritten piece by piece, with rules, and with changes that can be taken back."""

from orderlymoves.base.statements import flattened, used_first
from orderlymoves.base.values import is_name, is_whole
from orderlymoves.errors import InvalidNumber, InvalidOperation, NothingToUndo, UnknownName
from orderlymoves.live.pieces import cells_of_others, check_position, check_standing, exchanged
from orderlymoves.play.programs import Program, check_thread
from orderlymoves.play.states import is_orderly, outcome


class Sheet:
    """What a desk has on it between two changes: a program, and rules. Sheets never change."""

    def __init__(self, written_now, known):
        self.written_now = written_now
        self.known = known
        self.called = tuple(sorted(known))


class Desk:
    """A desk with an orderly program, and with rules."""

    def __init__(self, program):
        if not is_orderly(program):
            raise InvalidOperation("the program is not orderly")
        self._first = program
        self._shown = outcome(program)
        self._sheet = Sheet(program, {})
        self._past = ()
        self._ahead = ()

    @property
    def program(self):
        return self._sheet.written_now

    @property
    def first(self):
        return self._first

    @property
    def shown(self):
        return self._shown

    @property
    def rules(self):
        return {name: self._sheet.known[name] for name in self._sheet.called}

    def exchange(self, thread, start, end, stretch):
        """Puts the code of a stretch into the place of a piece for which it may stand."""
        self._change(exchanged(self.program, thread, start, end, stretch), self._sheet.known)

    def learn(self, name, one, other, *, private=()):
        """Adds a rule: the second stretch may stand for the first one."""
        if not is_name(name) or name in self._sheet.known:
            raise InvalidOperation("a rule has a name that is not used")
        check_standing(one, other, private)
        known = self.rules
        known[name] = (one, other, private)
        self._change(self.program, known)

    def forget(self, name):
        """Takes a rule away."""
        self._check_rule(name)
        known = self.rules
        del known[name]
        self._change(self.program, known)

    def can_apply(self, name, thread, start):
        """Whether a rule can be applied to the statements from a position on."""
        self._check_rule(name)
        check_thread(self.program, thread)
        check_position(self.program.threads[thread], start)
        return _applies(self._sheet.known[name], self.program, thread, start)

    def apply(self, name, thread, start):
        """Puts the second stretch of a rule into the place of the first one."""
        if not self.can_apply(name, thread, start):
            raise InvalidOperation("the rule cannot be applied there")
        one, other, private = self._sheet.known[name]
        code = self.program.threads[thread]
        code = code[:start] + other.code + code[start + len(one):]
        self._change(self.program.with_code(thread, code), self._sheet.known)

    def places(self, name):
        """All pairs of a thread and a position at which a rule can be applied, ascending."""
        self._check_rule(name)
        rule = self._sheet.known[name]
        program = self.program
        for thread, code in enumerate(program.threads):
            for start in range(len(code) + 1):
                if _applies(rule, program, thread, start):
                    yield (thread, start)

    def undo(self, *, many=1):
        """Takes back so many changes, and tells how many can then be taken back."""
        _check_many(many, self._past)
        for _ in range(many):
            self._ahead = (self._sheet,) + self._ahead
            self._sheet = self._past[-1]
            self._past = self._past[:-1]
        return len(self._past)

    def redo(self, *, many=1):
        """Does so many changes again, and tells how many can then be taken back."""
        _check_many(many, self._ahead)
        for _ in range(many):
            self._past = self._past + (self._sheet,)
            self._sheet = self._ahead[0]
            self._ahead = self._ahead[1:]
        return len(self._past)

    def attempt(self):
        """A block behind which the desk is as it was when the block was entered."""
        return Attempt(self)

    def during(self, call):
        """What a call with the desk returns, which is then as it was."""
        with self.attempt() as same:
            return call(same)

    def twin(self):
        """An independent equal desk."""
        made = Desk(Program(((),)))
        made._first = self._first
        made._shown = self._shown
        made._sheet = self._sheet
        made._past = self._past
        made._ahead = self._ahead
        return made

    def __getitem__(self, at):
        self._check_rule(at)
        return self._sheet.known[at]

    def __contains__(self, x):
        return is_name(x) and x in self._sheet.known

    def __iter__(self):
        return iter(self._sheet.called)

    def __len__(self):
        return len(self._sheet.called)

    def __eq__(self, other):
        return (
            isinstance(other, Desk)
            and self._sheet.written_now == other._sheet.written_now
            and self._first == other._first
            and self._sheet.known == other._sheet.known
        )

    def __str__(self):
        threads = self.program.threads
        size = sum([len(flattened(code)) for code in threads])
        return f"desk of {len(threads)} threads, {size} statements, {len(self._sheet.called)} rules"

    def _change(self, program, known):
        """One change more, behind which none can be done again."""
        self._past = self._past + (self._sheet,)
        self._sheet = Sheet(program, known)
        self._ahead = ()

    def _check_rule(self, name):
        if not is_name(name) or name not in self._sheet.known:
            raise UnknownName(name)


class Attempt:
    """A block of a desk."""

    def __init__(self, desk):
        self.desk = desk
        self.sheet = None
        self.past = ()
        self.ahead = ()

    def __enter__(self):
        self.sheet = self.desk._sheet
        self.past = self.desk._past
        self.ahead = self.desk._ahead
        return self.desk

    def __exit__(self, kind, value, trace):
        desk = self.desk
        desk._sheet = self.sheet
        desk._past = self.past
        desk._ahead = self.ahead


def _applies(rule, program, thread, start):
    """Whether a rule can be applied to the statements of a thread from a position on."""
    one, other, private = rule
    code = program.threads[thread]
    end = start + len(one)
    touched = cells_of_others(program, thread)
    return (
        code[start:end] == one.code
        and all([name in one.keeps for name in used_first(code[end:])])
        and all([cell not in touched for cell in private])
    )


def _check_many(value, changes):
    if not is_whole(value) or value < 0:
        raise InvalidNumber(value)
    if value > len(changes):
        raise NothingToUndo(value)
