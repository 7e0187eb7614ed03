"""Programs of up to three threads, and their runs."""

from orderlymoves.base.statements import flattened, is_nested_code, most_on_path, names_in
from orderlymoves.base.stretches import MAX_DEPTH
from orderlymoves.base.values import is_answers, is_contents, is_name, is_number, written
from orderlymoves.errors import InvalidNumber, InvalidOperation, InvalidProgram

MAX_THREADS = 3
MAX_CODE = 60

MAX_ON_PATH = 6
MAX_ORDER = 200

# The words of the rows at which a thread stands between two steps.
STOPS = ("read", "write", "get", "put", "show", "over")


def is_thread_code(value):
    """Whether the value is code that a thread of a program can have."""
    return (
        is_nested_code(value, MAX_DEPTH, True)
        and len(flattened(value)) <= MAX_CODE
        and most_on_path(value, "if") <= MAX_ON_PATH
        and most_on_path(value, "set") <= MAX_ON_PATH
    )


def is_order(value, many):
    """Whether the value is a row of numbers of so many threads, as a program takes it."""
    return (
        isinstance(value, tuple)
        and len(value) <= MAX_ORDER
        and all([is_number(thread, 0, many - 1) for thread in value])
    )


class Program:
    """The codes of one to three threads, with contents of cells and answers of tests."""

    def __init__(self, threads, *, cells=None, answers=None):
        if not _is_threads(threads):
            raise InvalidProgram("a program has a tuple of one to three codes")
        if cells is not None and not is_contents(cells):
            raise InvalidProgram("cells are a dict from names to values")
        if answers is not None and not is_answers(answers):
            raise InvalidProgram("answers are a dict from pairs of a test and a value to booleans")
        self._threads = threads
        self._cells = _ascending(cells)
        self._answers = _ascending(answers)

    @property
    def threads(self):
        return self._threads

    @property
    def cells(self):
        return _ascending(self._cells)

    @property
    def answers(self):
        return _ascending(self._answers)

    @property
    def names(self):
        found = list(self._cells)
        for code in self._threads:
            found.extend(names_in(code, "cell"))
        return tuple(sorted(set(found)))

    def with_code(self, thread, code):
        """The program with other code in a thread."""
        check_thread(self, thread)
        threads = self._threads[:thread] + (code,) + self._threads[thread + 1:]
        return Program(threads, cells=self._cells, answers=self._answers)

    def __call__(self, order):
        """The run that comes by the steps of these threads."""
        if not is_order(order, len(self._threads)):
            raise InvalidOperation("an order is a tuple of at most 200 numbers of threads")
        moment = moment_after(self, order)
        if moment is None:
            raise InvalidOperation("a step of the order is not possible")
        return Run(self, order, moment)

    def __len__(self):
        return len(self._threads)

    def __eq__(self, other):
        return (
            isinstance(other, Program)
            and self._threads == other._threads
            and self._cells == other._cells
            and self._answers == other._answers
        )

    def __str__(self):
        size = sum([len(flattened(code)) for code in self._threads])
        return f"program of {len(self._threads)} threads, {size} statements, {len(self.names)} cells"


class Run:
    """What a program has come to by some steps. Runs are made by programs alone."""

    def __init__(self, program, order, moment):
        self._program = program
        self._order = order
        self._moment = moment
        self._shown = tuple(moment.rows)
        self._cells = _ascending(moment.contents)
        self._lines = tuple(moment.queues)
        self._next_steps = tuple([moment.step_of(thread) for thread in range(len(program))])
        self._ready = moment.movable()
        self._clashing = moment.clashes()

    @property
    def program(self):
        return self._program

    @property
    def order(self):
        return self._order

    @property
    def shown(self):
        return self._shown

    @property
    def cells(self):
        return _ascending(self._cells)

    @property
    def lines(self):
        return self._lines

    @property
    def next_steps(self):
        return self._next_steps

    @property
    def ready(self):
        return self._ready

    @property
    def is_end(self):
        return self._ready == ()

    @property
    def clashing(self):
        return self._clashing

    def held(self, thread, name):
        """The value of a register of a thread."""
        check_thread(self._program, thread)
        if not is_name(name):
            raise InvalidOperation("a register has a name")
        return self._moment.value_in(thread, name)

    def after(self, thread):
        """The run with one step more."""
        check_thread(self._program, thread)
        if not self._moment.can_step(thread):
            raise InvalidOperation("the step is not possible")
        return Run(self._program, self._order + (thread,), self._moment.stepped(thread))

    def __len__(self):
        return len(self._order)

    def __eq__(self, other):
        return isinstance(other, Run) and self._program == other._program and self._order == other._order

    def __str__(self):
        return f"run of {len(self._order)} steps, {len(self._ready)} ready"


class Machine:
    """The codes of a program as rows, its answers, and all values of functions that came up."""

    def __init__(self, program):
        self.tracks = [_track(code) + [("over",)] for code in program.threads]
        self.told = program.answers
        self.known = {}

    def value_of(self, function, values):
        """The value of a function; it is made once, as values can be long and come up in many runs."""
        key = (function, *values)
        if key not in self.known:
            self.known[key] = written(function, values)
        return self.known[key]


class Moment:
    """Where all threads of a program stand, and what all have, between two steps."""

    def __init__(self, machine, spots, worths, contents, queues, rows):
        self.machine = machine
        self.spots = spots
        self.worths = worths
        self.contents = contents
        self.queues = queues
        self.rows = rows

    def identity(self):
        """What is equal for two moments just if they are the same state."""
        worths = [tuple(sorted([(name, held[name]) for name in held])) for held in self.worths]
        contents = tuple(self.contents.values())
        return (tuple(self.spots), tuple(worths), contents, tuple(self.queues), tuple(self.rows))

    def seen(self):
        """The row that each thread has shown."""
        return tuple(self.rows)

    def row_of(self, thread):
        """The row at which a thread stands."""
        return self.machine.tracks[thread][self.spots[thread]]

    def step_of(self, thread):
        """The next step of a thread, None at the end of its code."""
        row = self.row_of(thread)
        if row[0] == "over":
            return None
        if row[0] == "read":
            return ("read", row[2])
        return row[:2] if row[0] == "write" else row[:1]

    def can_step(self, thread):
        """Whether the next step of a thread is possible."""
        word = self.row_of(thread)[0]
        return word != "over" and (word != "get" or self.queues[thread] != ())

    def movable(self):
        """The threads whose next step is possible."""
        return tuple([thread for thread in range(len(self.spots)) if self.can_step(thread)])

    def clashes(self):
        """All pairs of threads that clash, the lesser number first."""
        steps = [self.step_of(thread) for thread in range(len(self.spots))]
        return tuple([
            (one, other) for one in range(len(steps)) for other in range(one + 1, len(steps))
            if _is_clash(steps[one], steps[other])
        ])

    def stepped(self, thread):
        """The moment behind the next step of a thread."""
        worths = list(self.worths)
        worths[thread] = dict(worths[thread])
        made = Moment(self.machine, list(self.spots), worths, dict(self.contents), list(self.queues), list(self.rows))
        made.take_step(thread)
        made.settle(thread)
        return made

    def take_step(self, thread):
        """Takes the next step of a thread."""
        row = self.row_of(thread)
        self.spots[thread] += 1
        if row[0] == "read":
            self.assign(thread, row[1], self.contents[row[2]])
        elif row[0] == "write":
            self.contents[row[1]] = self.value_in(thread, row[2])
        elif row[0] == "get":
            self.assign(thread, row[1], self.queues[thread][0])
            self.queues[thread] = self.queues[thread][1:]
        elif row[0] == "put":
            following = (thread + 1) % len(self.queues)
            self.queues[following] = self.queues[following] + (self.value_in(thread, row[1]),)
        else:
            self.rows[thread] = self.rows[thread] + (self.value_in(thread, row[1]),)

    def settle(self, thread):
        """Does all statements of a thread up to its next step."""
        row = self.row_of(thread)
        while row[0] not in STOPS:
            self.spots[thread] += 1
            if row[0] == "skip":
                self.spots[thread] += row[1]
            elif row[0] == "if":
                if not self.is_yes(row[1], self.value_in(thread, row[2])):
                    self.spots[thread] += row[3]
            elif row[0] == "copy":
                self.assign(thread, row[1], self.value_in(thread, row[2]))
            else:
                values = [self.value_in(thread, name) for name in row[3]]
                self.assign(thread, row[1], self.machine.value_of(row[2], values))
            row = self.row_of(thread)

    def is_yes(self, test, value):
        """The answer of a test for a value."""
        return self.machine.told.get((test, value), False)

    def value_in(self, thread, name):
        """The value of a register of a thread."""
        return self.worths[thread].get(name, name)

    def assign(self, thread, name, value):
        """Gives a register a value; one that has its own name again is as one that was never set."""
        self.worths[thread][name] = value
        if value == name:
            del self.worths[thread][name]


def first_moment(program):
    """Where the threads of a program stand before the first step."""
    threads = range(len(program))
    told = program.cells
    contents = {name: told.get(name, f"{name}.1") for name in program.names}
    empty = [() for _ in threads]
    made = Moment(Machine(program), [0 for _ in threads], [{} for _ in threads], contents, empty, list(empty))
    for thread in threads:
        made.settle(thread)
    return made


def moment_after(program, order):
    """Where a program stands after the steps of these threads, None if one is not possible."""
    moment = first_moment(program)
    for thread in order:
        if not moment.can_step(thread):
            return None
        moment = moment.stepped(thread)
    return moment


def check_thread(program, value):
    """Raises an error for what is no number of a thread of a program."""
    if not is_number(value, 0, len(program) - 1):
        raise InvalidNumber(value)


def _is_threads(value):
    return isinstance(value, tuple) and 1 <= len(value) <= MAX_THREADS and all([is_thread_code(code) for code in value])


def _ascending(told):
    """A new dict with ascending keys, empty for None."""
    return {} if told is None else {key: told[key] for key in sorted(told)}


def _is_clash(one, other):
    """Whether two next steps are accesses to one cell, and one of them is a write."""
    if one is None or other is None or one[1:] != other[1:]:
        return False
    return "write" in (one[0], other[0])


def _track(code):
    """Code as rows without ifs in one another: an if skips the rows of yes, and these those of no."""
    rows = []
    for statement in code:
        if statement[0] == "if":
            yes = _track(statement[3])
            no = _track(statement[4])
            rows.append(("if", statement[1], statement[2], len(yes) + 1))
            rows.extend(yes)
            rows.append(("skip", len(no)))
            rows.extend(no)
        else:
            rows.append(statement)
    return rows
