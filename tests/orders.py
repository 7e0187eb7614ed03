"""Programs run a second time, as plainly as the document says it, to compare with: each thread is a generator."""

import itertools


class Answers(dict):
    """Answers of which all that are not told are no."""

    def __missing__(self, pair):
        return False


def steps(code, answers, registers, path=()):
    """A generator of the steps of code, each with its place; what is no step is done before the next one."""
    for at, statement in enumerate(code):
        word = statement[0]
        if word == "if":
            answer = answers[statement[1], registers.get(statement[2], statement[2])]
            yield from steps(statement[3 if answer else 4], answers, registers, path + (at, answer))
        elif word == "set":
            inside = ", ".join(registers.get(name, name) for name in statement[3])
            registers[statement[1]] = statement[2] + "(" + inside + ")"
        elif word == "copy":
            registers[statement[1]] = registers.get(statement[2], statement[2])
        else:
            yield path + (at,), statement


class PlainRun:
    """A run of a program by an order; `is_possible` is false if a step of the order is not."""

    def __init__(self, program, order=()):
        many = len(program.threads)
        self.contents = {name: program.cells.get(name, name + ".1") for name in program.names}
        self.registers = [{} for _ in range(many)]
        answers = Answers(program.answers)
        self.codes = [steps(code, answers, held) for code, held in zip(program.threads, self.registers)]
        self.next = [next(code, (None, None)) for code in self.codes]
        self.lines = [[] for _ in range(many)]
        self.rows = [[] for _ in range(many)]
        self.is_possible = all(self.step(thread) for thread in order)

    def can(self, thread):
        step = self.next[thread][1]
        return step is not None and (step[0] != "get" or self.lines[thread] != [])

    def step(self, thread):
        if not self.can(thread):
            return False
        word, *names = self.next[thread][1]
        held = self.registers[thread]
        if word == "read":
            held[names[0]] = self.contents[names[1]]
        elif word == "write":
            self.contents[names[0]] = held.get(names[1], names[1])
        elif word == "get":
            held[names[0]] = self.lines[thread].pop(0)
        else:
            row = self.rows[thread] if word == "show" else self.lines[(thread + 1) % len(self.lines)]
            row.append(held.get(names[0], names[0]))
        self.next[thread] = next(self.codes[thread], (None, None))
        return True

    def ready(self):
        return tuple(thread for thread in range(len(self.next)) if self.can(thread))

    def shown(self):
        return tuple(map(tuple, self.rows))

    def next_steps(self):
        found = []
        for _, step in self.next:
            if step is None or step[0] not in ("read", "write"):
                found.append(step and step[:1])
            else:
                found.append((step[0], step[2] if step[0] == "read" else step[1]))
        return tuple(found)

    def clashing(self):
        found = self.next_steps()
        return tuple((one, other) for one, other in itertools.combinations(range(len(found)), 2)
                     if found[one] and found[other] and len(found[one]) == 2 == len(found[other])
                     and found[one][1] == found[other][1] and "write" in (found[one][0], found[other][0]))

    def state(self):
        """All that two runs that have come to the same state have in common."""
        held = tuple(frozenset((name, row[name]) for name in row if row[name] != name) for row in self.registers)
        lines = tuple(map(tuple, self.lines))
        return tuple(place for place, _ in self.next), held, tuple(self.contents.items()), lines, self.shown()


def all_orders(program):
    """All orders of a small program, each with its plain run."""
    ahead = [()]
    while ahead:
        order = ahead.pop()
        run = PlainRun(program, order)
        yield order, run
        ahead.extend(order + (thread,) for thread in run.ready())
