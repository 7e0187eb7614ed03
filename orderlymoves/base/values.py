"""Names, sets of names, and values, which are texts."""

from orderlymoves.errors import InvalidNumber, InvalidOperation, InvalidValue

MAX_LETTERS = 8
WORDS = ("else", "end", "get", "if", "put", "show")

LETTERS = "abcdefghijklmnopqrstuvwxyz"
DIGITS = "0123456789"
MAX_UNKNOWN = 999
MAX_ARGUMENTS = 2

# What may stand behind each kind of word and sign of a value.
FOLLOWERS = {
    "start": ("function", "atom"),
    "function": ("(",),
    "(": ("function", "atom", ")"),
    ", ": ("function", "atom"),
    "atom": (", ", ")", "end"),
    ")": (", ", ")", "end"),
}


def is_number(value, low, high):
    """Whether the value is an integer from low to high."""
    return is_whole(value) and low <= value <= high


def is_whole(value):
    """Whether the value is an integer."""
    return isinstance(value, int) and not isinstance(value, bool)


def is_name(value):
    """Whether the value is a name."""
    return (
        isinstance(value, str)
        and 1 <= len(value) <= MAX_LETTERS
        and all([letter in LETTERS for letter in value])
        and value not in WORDS
    )


def is_set(value):
    """Whether the value is a set of names: the ascending tuple of its members."""
    return (
        isinstance(value, tuple)
        and all([is_name(name) for name in value])
        and all([name < after for name, after in zip(value, value[1:])])
    )


def spare_names(used, many):
    """So many names that are not used, each time the same ones."""
    found = []
    number = 0
    while len(found) < many:
        name = _numbered(number)
        if is_name(name) and name not in used:
            found.append(name)
        number += 1
    return found


def _numbered(number):
    """The letters for a number, others for each."""
    text = LETTERS[number % len(LETTERS)]
    while number >= len(LETTERS):
        number = number // len(LETTERS)
        text = LETTERS[number % len(LETTERS)] + text
    return text


def is_value(value):
    """Whether the value is a value."""
    # Values can be nested deeper than calls, so this goes through the text instead of into it.
    if not isinstance(value, str) or "\n" in value:
        return False
    kinds = _kinds(_pieces(value))
    return _is_in_turn(kinds) and _is_nested(kinds)


def is_answers(value):
    """Whether the value is a dict from pairs of a test and a value to booleans."""
    return isinstance(value, dict) and all([_is_asked(pair) and isinstance(value[pair], bool) for pair in value])


def _is_asked(value):
    """Whether the value is a pair of a test and a value."""
    return isinstance(value, tuple) and len(value) == 2 and is_name(value[0]) and is_value(value[1])


def is_contents(value):
    """Whether the value is a dict from names of cells to values."""
    return isinstance(value, dict) and all([is_name(cell) and is_value(value[cell]) for cell in value])


def unknown(name, number):
    """The unknown of a name, or of `get`, with a number."""
    if not is_name(name) and name != "get":
        raise InvalidOperation("an unknown has a name, or get")
    if not is_number(number, 1, MAX_UNKNOWN):
        raise InvalidNumber(number)
    return f"{name}.{number}"


def applied(function, *values):
    """The value of a function for up to two values."""
    if not is_name(function):
        raise InvalidOperation("a function has a name")
    if len(values) > MAX_ARGUMENTS:
        raise InvalidOperation("a function takes at most two values")
    if not all([is_value(value) for value in values]):
        raise InvalidValue("a function takes values")
    return written(function, values)


def written(function, values):
    """The text of the value of a function, for a name and values that need no check."""
    inside = ", ".join(values)
    return f"{function}({inside})"


def parts(value):
    """The function and the values of the value of a function, None for another value."""
    _check_value(value)
    function, sign, inside = value.partition("(")
    if not sign:
        return None
    return (function, _divided(inside[:-1]))


def atoms(value):
    """The names and unknowns in a value, ascending."""
    _check_value(value)
    pieces = _pieces(value)
    return tuple(sorted({piece for piece, kind in zip(pieces, _kinds(pieces)) if kind == "atom"}))


def _check_value(value):
    if not is_value(value):
        raise InvalidValue("not a value")


def _pieces(text):
    """The words and the signs of a text without newlines, in order."""
    for sign in ("(", ")", ", "):
        text = text.replace(sign, "\n" + sign + "\n")
    return [piece for piece in text.split("\n") if piece]


def _kinds(pieces):
    """The kind of each word and sign, "wrong" for a word that stands in no value."""
    return [_kind(piece, after) for piece, after in zip(pieces, pieces[1:] + [""])]


def _kind(piece, after):
    if piece in ("(", ")", ", "):
        return piece
    if after == "(":
        return "function" if is_name(piece) else "wrong"
    return "atom" if _is_atom(piece) else "wrong"


def _is_atom(word):
    """Whether the word is a name or an unknown."""
    head, dot, number = word.partition(".")
    if not dot:
        return is_name(word)
    return (is_name(head) or head == "get") and _is_written_number(number)


def _is_written_number(text):
    """Whether the text is a number from 1 on without leading zeros."""
    return text != "" and text[0] != "0" and all([digit in DIGITS for digit in text])


def _is_in_turn(kinds):
    """Whether each kind may stand behind the one ahead of it."""
    return all([after in FOLLOWERS.get(kind, ()) for kind, after in zip(["start"] + kinds, kinds + ["end"])])


def _is_nested(kinds):
    """Whether parentheses stand in pairs, and all commas in such pairs, at most one in each."""
    commas = []
    for kind in kinds:
        if kind == "(":
            commas.append(0)
        elif kind == ")":
            if not commas:
                return False
            commas.pop()
        elif kind == ", ":
            if not commas or commas[-1] == MAX_ARGUMENTS - 1:
                return False
            commas[-1] += 1
    return not commas


def _divided(inside):
    """The values that stand between the parentheses of a function."""
    depth = 0
    for at, sign in enumerate(inside):
        if sign == "(":
            depth += 1
        elif sign == ")":
            depth -= 1
        elif sign == "," and depth == 0:
            return (inside[:at], inside[at + 2:])
    return (inside,) if inside else ()
