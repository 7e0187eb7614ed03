"""Texts of codes, stretches and programs: one line for each statement."""

from orderlymoves.base.statements import FORMS
from orderlymoves.base.stretches import Stretch
from orderlymoves.base.values import is_name, is_set, is_value
from orderlymoves.errors import InvalidOperation, ParseError
from orderlymoves.play.programs import Program, is_thread_code
from orderlymoves.play.states import check_program
from orderlymoves.walk.ways import check_stretch

MAX_SET_WORDS = 5


def write_code(code):
    """The text of code."""
    _check_code(code)
    return "\n".join(_lines_of(code))


def write_stretch(stretch):
    """The text of a stretch."""
    check_stretch(stretch)
    return "\n".join([" ".join(["keeps", *stretch.keeps])] + _lines_of(stretch.code))


def write_program(program):
    """The text of a program."""
    check_program(program)
    lines = []
    for code in program.threads:
        lines.append("thread")
        lines.extend(_lines_of(code))
    cells = program.cells
    lines.extend([f"cell {name} {cells[name]}" for name in cells])
    answers = program.answers
    for test, value in answers:
        word = "yes" if answers[(test, value)] else "no"
        lines.append(f"answer {test} {word} {value}")
    return "\n".join(lines)


def read_code(text):
    """The code with a text."""
    reader = CodeReader(True)
    _read(reader, text)
    code = reader.all_code()
    _check_code(code)
    return code


def read_stretch(text):
    """The stretch with a text."""
    reader = StretchReader()
    _read(reader, text)
    return Stretch(reader.body.all_code(), reader.names_told)


def read_program(text):
    """The program with a text."""
    reader = ProgramReader()
    _read(reader, text)
    return Program(tuple([body.all_code() for body in reader.bodies]), cells=reader.contents, answers=reader.told)


class CodeReader:
    """Code whose lines come one after the other."""

    def __init__(self, shows):
        self.shows = shows
        # The open ifs from the outermost one on, each with its test, its register, and its code of yes if `else` came.
        self.opened = []
        # The statements so far of the code itself, and of the code of each open if to which lines belong.
        self.rows = [[]]

    def take(self, line):
        """Takes the next line, and tells whether it can stand there."""
        words = line.split(" ")
        if words == ["else"]:
            return self.take_else()
        if words == ["end"]:
            return self.take_end()
        if words[0] == "if":
            return self.take_if(words)
        statement = _statement_of(words)
        if statement is None or (words[0] == "show" and not self.shows):
            return False
        self.rows[-1].append(statement)
        return True

    def take_if(self, words):
        if len(words) != 3 or not is_name(words[1]) or not is_name(words[2]):
            return False
        self.opened.append((words[1], words[2]))
        self.rows.append([])
        return True

    def take_else(self):
        if not self.opened or len(self.opened[-1]) == 3:
            return False
        test, name = self.opened.pop()
        self.opened.append((test, name, tuple(self.rows.pop())))
        self.rows.append([])
        return True

    def take_end(self):
        if not self.opened or len(self.opened[-1]) == 2:
            return False
        test, name, yes = self.opened.pop()
        no = tuple(self.rows.pop())
        self.rows[-1].append(("if", test, name, yes, no))
        return True

    def is_complete(self):
        """Whether no line is lacking."""
        return not self.opened

    def all_code(self):
        """The code of all lines, once it is complete."""
        return tuple(self.rows[0])


class StretchReader:
    """A stretch whose lines come one after the other."""

    def __init__(self):
        self.names_told = None
        self.body = CodeReader(False)

    def take(self, line):
        """Takes the next line, and tells whether it can stand there."""
        if self.names_told is not None:
            return self.body.take(line)
        word, *names = line.split(" ")
        if word != "keeps" or not is_set(tuple(names)):
            return False
        self.names_told = tuple(names)
        return True

    def is_complete(self):
        """Whether no line is lacking."""
        return self.names_told is not None and self.body.is_complete()


class ProgramReader:
    """A program whose lines come one after the other."""

    def __init__(self):
        self.bodies = []
        self.contents = {}
        self.told = {}
        self.latest_cell = ""
        self.latest_pair = ("", "")

    def take(self, line):
        """Takes the next line, and tells whether it can stand there."""
        word, _, rest = line.partition(" ")
        if line == "thread":
            return self.take_thread()
        if word == "cell":
            return self.take_cell(rest)
        if word == "answer":
            return self.take_answer(rest)
        return self.bodies != [] and self.is_in_threads() and self.bodies[-1].take(line)

    def take_thread(self):
        if not self.is_in_threads() or (self.bodies and not self.is_complete()):
            return False
        self.bodies.append(CodeReader(True))
        return True

    def take_cell(self, rest):
        name, _, value = rest.partition(" ")
        if not self.is_complete() or self.told or not is_name(name) or not is_value(value):
            return False
        if name <= self.latest_cell:
            return False
        self.contents[name] = value
        self.latest_cell = name
        return True

    def take_answer(self, rest):
        test, _, answer = rest.partition(" ")
        word, _, value = answer.partition(" ")
        if not self.is_complete() or not is_name(test) or word not in ("yes", "no") or not is_value(value):
            return False
        if (test, value) <= self.latest_pair:
            return False
        self.told[(test, value)] = word == "yes"
        self.latest_pair = (test, value)
        return True

    def is_in_threads(self):
        """Whether no line of a cell or an answer came so far."""
        return not self.contents and not self.told

    def is_complete(self):
        """Whether no line is lacking."""
        return self.bodies != [] and self.bodies[-1].is_complete()


def _read(reader, text):
    """Gives a reader all lines of a text."""
    if not isinstance(text, str):
        raise ParseError(None)
    lines = text.split("\n") if text else []
    for at, line in enumerate(lines):
        if not reader.take(line):
            raise ParseError(at)
    if not reader.is_complete():
        raise ParseError(len(lines))


def _statement_of(words):
    """The statement with these words, None if there is none; an if has more than one line."""
    if words[0] not in FORMS or not all([is_name(word) for word in words[1:]]):
        return None
    if words[0] == "set":
        is_right = MAX_SET_WORDS - 2 <= len(words) <= MAX_SET_WORDS
        return ("set", words[1], words[2], tuple(words[3:])) if is_right else None
    return tuple(words) if len(words) == len(FORMS[words[0]]) + 1 else None


def _lines_of(code):
    """The lines of code."""
    lines = []
    for statement in code:
        if statement[0] == "if":
            lines.append(" ".join(statement[:3]))
            lines.extend(_lines_of(statement[3]))
            lines.append("else")
            lines.extend(_lines_of(statement[4]))
            lines.append("end")
        elif statement[0] == "set":
            lines.append(" ".join([*statement[:3], *statement[3]]))
        else:
            lines.append(" ".join(statement))
    return lines


def _check_code(code):
    if not is_thread_code(code):
        raise InvalidOperation("code as a thread of a program has it is needed")
