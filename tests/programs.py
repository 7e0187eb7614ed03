"""Small programs of threads, run in all orders, to see what the main promise says of stretches."""

import zlib


def answer(test, value, salt):
    """Some answer of a test, the same each time; another salt gives other answers."""
    return bool(zlib.crc32(f"{test} {value} {salt}".encode()) & 64)


def settled(code, registers, salt):
    """The code from the next step on and the registers, when all statements up to this step are done."""
    code, registers = list(code), dict(registers)
    while code and code[0][0] in ("set", "copy", "if"):
        statement = code.pop(0)
        values = [registers.get(name, name) for name in statement[1:3]]
        if statement[0] == "if":
            code[:0] = statement[3] if answer(statement[1], values[1], salt) else statement[4]
        elif statement[0] == "copy":
            registers[statement[1]] = values[1]
        else:
            inside = ", ".join(registers.get(name, name) for name in statement[3])
            registers[statement[1]] = statement[2] + "(" + inside + ")"
    return tuple(code), tuple(sorted(registers.items()))


def touched(thread):
    """The kind and the cell of the next step of a thread, if it is an access."""
    step = thread[0][0] if thread[0] else ("",)
    if step[0] in ("read", "write"):
        return step[0], step[2] if step[0] == "read" else step[1]
    return None


def is_clashing(threads):
    found = [access for access in map(touched, threads) if access]
    return any(one[1] == other[1] and "write" in (one[0], other[0])
               for at, one in enumerate(found) for other in found[:at])


def after(state, at, salt):
    """The state behind one step of a thread, None if it is not possible."""
    threads, cells, lines, shown = [list(part) for part in state]
    code, registers = threads[at]
    if not code or code[0][0] == "get" and not lines[at]:
        return None
    cells, registers, step = dict(cells), dict(registers), code[0]
    if step[0] == "read":
        registers[step[1]] = cells.get(step[2], step[2] + ".1")
    elif step[0] == "write":
        cells[step[1]] = registers.get(step[2], step[2])
    elif step[0] == "get":
        registers[step[1]], lines[at] = lines[at][0], lines[at][1:]
    else:
        to, rows = ((at + 1) % len(threads), lines) if step[0] == "put" else (at, shown)
        rows[to] += (registers.get(step[1], step[1]),)
    threads[at] = settled(code[1:], registers, salt)
    return tuple(threads), tuple(sorted(cells.items())), tuple(lines), tuple(shown)


def outcome(codes, salt, limit=2000):
    """The rows at all ends of a program, None if it is not orderly or has more states than the limit."""
    empty = tuple(() for _ in codes)
    first = (tuple(settled(code, {}, salt) for code in codes), (), empty, empty)
    seen, ahead, ends = {first}, [first], set()
    while ahead:
        state = ahead.pop()
        if is_clashing(state[0]) or len(seen) > limit:
            return None
        found = [after(state, at, salt) for at in range(len(codes))]
        if found == [None] * len(codes):
            ends.add(state[3])
        for new in found:
            if new is not None and new not in seen:
                seen.add(new)
                ahead.append(new)
    return ends
