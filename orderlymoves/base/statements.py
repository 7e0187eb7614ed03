"""The forms of statements, and what stands in code."""

from orderlymoves.base.values import is_name

MAX_REGISTERS = 2

# What the parts of each statement are, behind its word.
FORMS = {
    "read": ("register", "cell"),
    "write": ("cell", "register"),
    "set": ("register", "function", "registers"),
    "copy": ("register", "register"),
    "get": ("register",),
    "put": ("register",),
    "if": ("test", "register", "code", "code"),
    "show": ("register",),
}

# The words of the statements that set the register behind the word.
SETTING = ("read", "set", "copy", "get")


def is_nested_code(value, depth, shows=False):
    """Whether the value is code in which ifs are nested at most so deep, and `show` can stand only if it may."""
    return isinstance(value, tuple) and all([_is_statement(part, depth, shows) for part in value])


def _is_statement(value, depth, shows):
    if not isinstance(value, tuple) or value == () or not isinstance(value[0], str):
        return False
    if value[0] not in FORMS or (value[0] == "show" and not shows):
        return False
    form = FORMS[value[0]]
    return len(value) == len(form) + 1 and all([_fits(part, role, depth, shows) for part, role in zip(value[1:], form)])


def _fits(part, role, depth, shows):
    if role == "code":
        return depth > 0 and is_nested_code(part, depth - 1, shows)
    if role == "registers":
        return isinstance(part, tuple) and len(part) <= MAX_REGISTERS and all([is_name(name) for name in part])
    return is_name(part)


def flattened(code):
    """All statements of code as they are written: an if stands ahead of those in it."""
    found = []
    for statement in code:
        found.append(statement)
        for inner in codes_in(statement):
            found.extend(flattened(inner))
    return found


def codes_in(statement):
    """The two codes of an if, none for another statement."""
    return statement[3:] if statement[0] == "if" else ()


def names_in(code, role):
    """The set of the names that stand in code in one role."""
    return tuple(sorted({name for statement in flattened(code) for name in _names_of(statement, role)}))


def _names_of(statement, role):
    """The names that a statement itself has in one role."""
    found = []
    for part, known in zip(statement[1:], FORMS[statement[0]]):
        if known == role:
            found.append(part)
        elif known == "registers" and role == "register":
            found.extend(part)
    return found


def used_first(code, behind=()):
    """The set of the registers that code, and what stands behind it, uses on some path before it sets them."""
    found = tuple(sorted(set(behind)))
    for statement in code[::-1]:
        if statement[0] == "if":
            ways_on = used_first(statement[3], found) + used_first(statement[4], found)
        else:
            ways_on = tuple([name for name in found if name != _set_by(statement)])
        found = tuple(sorted(set(ways_on + tuple(_used_by(statement)))))
    return found


def _set_by(statement):
    """The register that a statement sets, None if it sets none."""
    return statement[1] if statement[0] in SETTING else None


def _used_by(statement):
    """The registers whose values a statement itself uses."""
    found = _names_of(statement, "register")
    return found[1:] if statement[0] in SETTING else found


def most_on_path(code, kind):
    """The most statements of one kind on a path of code."""
    return sum([_most_at(statement, kind) for statement in code])


def _most_at(statement, kind):
    own = 1 if _path_kind(statement) == kind else 0
    return own + max([most_on_path(inner, kind) for inner in codes_in(statement)], default=0)


def _path_kind(statement):
    """What a statement counts as on a path: a set without registers is no such set statement."""
    if statement[0] in ("get", "put"):
        return "letter"
    if statement[0] == "set":
        return "set" if statement[3] else "constant"
    return statement[0]


def renamed_code(code, cells, registers):
    """The code with the names that two dicts give to its cells and registers."""
    return tuple([_renamed_statement(statement, cells, registers) for statement in code])


def _renamed_statement(statement, cells, registers):
    form = FORMS[statement[0]]
    named = [_renamed_part(part, role, cells, registers) for part, role in zip(statement[1:], form)]
    return (statement[0], *named)


def _renamed_part(part, role, cells, registers):
    if role == "code":
        return renamed_code(part, cells, registers)
    if role == "cell":
        return cells[part]
    if role == "register":
        return registers[part]
    if role == "registers":
        return tuple([registers[name] for name in part])
    return part
