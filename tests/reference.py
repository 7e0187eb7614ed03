"""Ways, covered places and cases, written a second time as plainly as the document says them, to compare with."""


class Lacking(Exception):
    """A test is asked that has no answer."""


def parted(letters, place, after):
    """Whether a put, and behind it a get, have numbers from one place up to another one."""
    between = range(place, min(after, len(letters)))
    return any(letters[k][0] == "put" and letters[m][0] == "get" for k in between for m in between if k < m)


def chain_numbers(places, letters):
    """The number of the chain of each access, for the places of the accesses in order."""
    return [1 + sum(parted(letters, places[k], places[k + 1]) for k in range(at)) for at in range(len(places))]


def groups(indices, numbers):
    """The indices with each number, from 1 on."""
    return tuple(tuple(index for index, number in zip(indices, numbers) if number == told)
                 for told in range(1, max(numbers, default=0) + 1))


def steps(code, answers, registers, asked):
    """A generator of the steps of code; the register of a read or a get is set before the next one is asked for."""
    for statement in code:
        values = [registers.get(name, name) for name in statement[1:] if isinstance(name, str)]
        if statement[0] == "if":
            pair = (statement[1], values[1])
            if pair not in answers:
                raise Lacking(pair)
            asked[pair] = answers[pair]
            yield from steps(statement[3] if answers[pair] else statement[4], answers, registers, asked)
        elif statement[0] == "set":
            inside = ", ".join(registers.get(name, name) for name in statement[3])
            registers[statement[1]] = statement[2] + "(" + inside + ")"
        elif statement[0] == "copy":
            registers[statement[1]] = values[1]
        else:
            yield statement


def letters_for(way, cell):
    return [] if cell in way["private"] else way["letters"]


def of_cell(way, cell, kinds=("read", "write")):
    return [at for at, access in enumerate(way["accesses"]) if access[1] == cell and access[0] in kinds]


def chains(way, cell, kinds=("read", "write")):
    indices = of_cell(way, cell, kinds)
    return groups(indices, chain_numbers([way["accesses"][at][2] for at in indices], letters_for(way, cell)))


def follow(code, keeps, answers, private=()):
    """A dict with the properties of a way."""
    registers = {}
    way = {"letters": [], "accesses": [], "answers": {}, "private": private}
    for step in steps(code, answers, registers, way["answers"]):
        if step[0] == "get":
            registers[step[1]] = "get." + str(1 + sum(kind == "get" for kind, _ in way["letters"]))
            way["letters"].append(("get", registers[step[1]]))
        elif step[0] == "put":
            way["letters"].append(("put", registers.get(step[1], step[1])))
        else:
            cell = step[2] if step[0] == "read" else step[1]
            value = registers.get(step[2], step[2]) if step[0] == "write" else None
            way["accesses"].append((step[0], cell, len(way["letters"]), value))
            if step[0] == "read":
                *before, at = chains(way, cell)[-1]
                written = [way["accesses"][k][3] for k in before if way["accesses"][k][0] == "write"]
                registers[step[1]] = written[-1] if written else cell + "." + str(len(chains(way, cell)))
                way["accesses"][at] = ("read", cell, len(way["letters"]), registers[step[1]])
    way["kept"] = {name: registers.get(name, name) for name in keeps}
    way["left"] = sorted(left(way))
    return way


def left(way):
    many = len(way["letters"])
    for cell in {access[1] for access in way["accesses"]}:
        written = [way["accesses"][at][3] for at in of_cell(way, cell, ("write",))]
        if cell in way["private"]:
            yield (cell, many, written[-1] if written else cell + ".1")
            continue
        for chain in chains(way, cell, ("write",)):
            place = way["accesses"][chain[-1]][2]
            puts = [k for k in range(many) if way["letters"][k][0] == "put" and k >= place]
            yield (cell, puts[0] if puts else many, way["accesses"][chain[-1]][3])


def answered(ask, answers=None):
    """All that `ask` returns under answers and further ones, yes ahead of no, each with the answers."""
    answers = {} if answers is None else answers
    try:
        return [(answers, ask(answers))]
    except Lacking as lacking:
        pair = lacking.args[0]
        return [found for answer in (True, False) for found in answered(ask, {**answers, pair: answer})]


def covering(way, kind, cell, place):
    if cell in way["private"]:
        return ()
    found = []
    for at in of_cell(way, cell, ("write",) if kind == "write" else ("read", "write")):
        ahead = way["accesses"][at][2]
        behind = [letter[0] for letter in way["letters"][ahead:place]]
        before = [letter[0] for letter in way["letters"][place:ahead]]
        if ahead <= place and "put" not in behind or place <= ahead and "get" not in before:
            found.append(at)
    return tuple(found)


def chain_with(way, cell, index):
    """The number of the chain to which an access belongs."""
    return [index in chain for chain in chains(way, cell)].index(True) + 1


def beside(way, code, answers):
    """The fault, the accesses and the letters of a walk beside a way."""
    registers, contents, accesses, letters = {}, {}, [], []
    for step in steps(code, answers, registers, {}):
        if step[0] in ("get", "put"):
            number = len(letters)
            value = registers.get(step[1], step[1])
            if step[0] == "get":
                value = registers[step[1]] = "get." + str(1 + sum(kind == "get" for kind, _ in letters))
            if number == len(way["letters"]) or way["letters"][number] != (step[0], value):
                return ("letter", number), accesses, letters
            letters.append((step[0], value))
            if step[0] == "put":
                for cell, place, told in way["left"]:
                    if place == number and told != content(way, contents, cell, place):
                        return ("content", cell, number), accesses, letters
            continue
        cell = step[2] if step[0] == "read" else step[1]
        covers = covering(way, step[0], cell, len(letters))
        if covers == () and cell not in way["private"]:
            return ("bare", len(accesses)), accesses, letters
        number = 1 if cell in way["private"] else chain_with(way, cell, covers[0])
        if step[0] == "write":
            contents[cell, number] = registers.get(step[2], step[2])
        else:
            registers[step[1]] = contents.get((cell, number), cell + "." + str(number))
        value = contents[cell, number] if step[0] == "write" else registers[step[1]]
        accesses.append((step[0], cell, len(letters), value))
    return fault_at_end(way, letters, contents, registers), accesses, letters


def content(way, contents, cell, place):
    """The content of a cell in a walk in the chain of the write that has left something at a place."""
    number = 1
    if cell not in way["private"]:
        lasts = [chain[-1] for chain in chains(way, cell, ("write",))]
        number, = [chain_with(way, cell, last) for last in lasts if place_left(way, last) == place]
    return contents.get((cell, number), cell + "." + str(number))


def place_left(way, last):
    place = way["accesses"][last][2]
    while place < len(way["letters"]) and way["letters"][place][0] == "get":
        place += 1
    return place


def fault_at_end(way, letters, contents, registers):
    many = len(way["letters"])
    if len(letters) < many:
        return ("letter", len(letters))
    told = {cell: value for cell, place, value in way["left"] if place == many}
    for cell in sorted(set(told) | set(way["private"])):
        if told.get(cell, cell + ".1") != content(way, contents, cell, many):
            return ("content", cell, many)
    for name in sorted(way["kept"]):
        if way["kept"][name] != registers.get(name, name):
            return ("register", name)
    return None
