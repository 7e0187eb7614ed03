"""Values of all the kinds that can come to a parameter, for the tests of wrong arguments."""

import random

from orderlymoves.base.stretches import Stretch
from orderlymoves.errors import InvalidNumber, MoveError, Unanswered
from orderlymoves.judge.cases import cases
from orderlymoves.judge.witness import Surrounding
from orderlymoves.live.desk import Desk
from orderlymoves.play.programs import Program
from orderlymoves.walk.ways import follow

REGISTERS = ("a", "b", "c")
CELLS = ("x", "y")


def nested(value, deep):
    """The value in lists, tuples and dicts, so many of them around one another."""
    for level in range(deep):
        value = ([value], (value, level), {"a": value, 1: None})[level % 3]
    return value


def others():
    """Values that are neither strings nor tuples."""
    return [
        0, 1, 2, 7, -1, 10 ** 12, -(10 ** 39), 10 ** 40 - 1, True, False, None,
        [], ["a"], ["a", "b"], [("put", "a")], [()], {}, {"a": "b"}, {"a": True}, {("p", "a"): False}, {1: [2]},
        Stretch(()), Stretch((("read", "a", "x"),), ("a",)), MoveError("a"), InvalidNumber([1]), Unanswered("p", "a"),
        [Stretch(())], nested("a", 12), nested(Stretch(()), 10), nested(nested(None, 6), 6), nested((), 9),
        follow(Stretch(()), {}), next(cases(Stretch(()), Stretch(()))), [follow(Stretch((("put", "a"),)), {})],
        Program(((),)), Program(((("show", "a"),), ()), cells={"x": "a"}), Program(((),))(()), [Program(((),))],
        Surrounding((), (), {}, {}), (Surrounding((), (), {}, {}),), Desk(Program(((),))), {"a": Desk(Program(((),)))},
    ]


def tuples():
    """Tuples that are neither sets of names nor code."""
    return [
        (1,), (None,), (True,), ("",), ("get",), ("a", 1), ("a", None), (("a",),), (["a"],), ({},), ("a", ["b"]),
        (Stretch(()),), ("a", "a"), ("b", "a"), ("a", "c", "b"), ("a", "A"), (nested("a", 11),), nested("a", 11),
        nested((), 11), ((((((((((((),),),),),),),),),),),), (10 ** 39,), ("a" * 400,), ("abcdefghi",),
    ]


def no_names():
    """Strings that are no names."""
    return [
        "", " ", "\n", "a\n", "\na", " a", "a ", "a b", "A", "aB", "Ab", "a1", "1", "0", "a_", "_a", "a-b", "a,b",
        "a.1", "get.1", "f()", "f(a)", "abcdefghi", "z" * 9, "a" * 400, "~" * 400, "\n" * 400,
        "else", "end", "get", "if", "put", "show", "()", "(", "`", "{", "@", "[", "None", "True",
    ]


def all_but(*kinds):
    """Values of all kinds but objects of some classes, without good names and good sets of names."""
    return [value for value in others() if not isinstance(value, kinds)] + tuples() + no_names()


def all_but_numbers(*good):
    """Values of all kinds but some integers."""
    return [value for value in all_but() if isinstance(value, bool) or value not in good]


def no_values():
    """Strings that are no values."""
    return [
        "", " ", "\n", "a\n", "\na", " a", "a ", "a b", "A", "a1", "1", "abcdefghi", "else", "end", "get", "if",
        "put", "show", "x.", ".1", ".", "x.0", "x.01", "x.00", "x.-1", "x.+1", "x.a", "x.1a", "x.1.2", "x..1", "x. 1",
        "x .1", "x.1 ", "x.1\n", "X.1", "x.1_0", "get.0", "get.01", "get.", "put.1", "if.1", "show.1", "else.1",
        "end.1", "abcdefghi.1", "a1.1", "get()", "get(a)", "if(a)", "put()", "abcdefghi()", "F()", "f1()", "f.1()",
        "x.1(a)", "f(", "f)", "f(a", "fa)", "()", "(a)", "(a, b)", "f()()", "f(a)b", "f()a", "f(a)(b)", "f(())",
        "f((a))", "f(a,b)", "f(a,  b)", "f(a , b)", "f( a)", "f(a )", "f( )", "f (a)", " f(a)", "f(a) ", "f(a)\n",
        "f(\na)", "f(a,\nb)", "f(a;b)", "f(a b)", "f(,)", "f(, )", "f(a, )", "f(, a)", "f(a,)", "f(,a)", "f(a, b, c)",
        "f(a, b, )", "f(, , )", "f(a))", "f((a)", "f(g(a)", "f(g(a)))", "f(a), g(b)", "a, b", "a,b", ", ", "a, ",
        "f(g(a, b, c))", "f(g(), h(), i())", "f(a, g(b, c, d))", "f(g(a), get)", "f(g(x.01), a)", "f(if)", "f(get)",
        "f(a, put)", "f[a]", "f{a}", "f(a]", "f(a.b)", "f(1)", "f(A)", "f(g(a)h)", "f(a g(b))", "f(g(a)g(b))",
        "f(a)g(b)", "f(a)f(", ")f(", ")(", "f)a(", "((((", "))))", "(" * 400, ")" * 400, "f(" * 200, "a" * 400,
        "f(" * 133 + "a" + ")" * 132, "f(" * 132 + "a" + ")" * 133, ", " * 200, "x." + "0" * 398,
    ]


def no_answers():
    """What is no dict from pairs of a test and a value to booleans."""
    good = {("p", "a"): True, ("q", "f(x.1, get.2)"): False}
    found = [value for value in others() if value not in ({}, {("p", "a"): False})] + tuples() + no_names() + ["a", ()]
    for key in ("p", ("p",), ("p", "a", "b"), ("p", "a", True), (("p", "a"),), ("a b", "a"), ("get", "a"), ("p.1", "a"),
                ("p", "get"), ("p", ""), ("p", "f(a,b)"), ("p", "x.0"), ("p", "a "), ("p", 1), (1, "a"), (None, "a"),
                ("p", None), ("p", ("a",)), (("p",), "a"), 1, None, True, (), MoveError("p")):
        found.append({key: True})
        found.append({**good, key: False})
    for answer in (0, 1, None, "yes", "True", "", (), (True,), [], [True], {}, Stretch(())):
        found.append({("p", "a"): answer})
        found.append({**good, ("q", "a"): answer})
    return found


def check_errors(test, call, told):
    """Checks the errors of a call with wrong arguments, which come in the order of its parameters.

    Each parameter is told by a good argument, wrong ones, and the error that each of these has.
    """
    for at, (_, wrongs, error) in enumerate(told):
        for wrong in wrongs:
            arguments = [good for good, _, _ in told]
            arguments[at] = wrong
            with test.subTest(at=at, wrong=wrong), test.assertRaises(error):
                call(*arguments)
            # What is wrong behind it does not matter.
            arguments[at + 1:] = [later[1][0] for later in told[at + 1:]]
            with test.subTest(at=at, wrong=wrong, behind=arguments[at + 1:]), test.assertRaises(error):
                call(*arguments)


def some_code(rng, many, deep=1):
    """Code of so many statements, with ifs that are nested so deep."""
    return tuple(some_statement(rng, deep) for _ in range(many))


def some_statement(rng, deep):
    words = ["read", "read", "write", "write", "put", "get", "set", "copy"] + ["if"] * (deep > 0)
    word, one, other, cell = rng.choice(words), rng.choice(REGISTERS), rng.choice(REGISTERS), rng.choice(CELLS)
    if word == "read":
        return ("read", one, cell)
    if word == "write":
        return ("write", cell, one)
    if word == "set":
        return ("set", one, rng.choice("fg"), tuple(rng.choice(REGISTERS) for _ in range(rng.randint(0, 2))))
    if word == "copy":
        return ("copy", one, other)
    if word == "if":
        codes = [some_code(rng, rng.randint(0, 2), deep - 1) for _ in range(2)]
        return ("if", rng.choice("pq"), one, *codes)
    return (word, one)


def some_change(rng, code):
    """Code with one statement less, more or elsewhere."""
    found = list(code) or list(some_code(rng, 1))
    at = rng.randrange(len(found))
    statement = found[at]
    change = rng.choice(("drop", "double", "move", "move", "put in"))
    if change in ("drop", "move"):
        del found[at]
    if change == "move":
        found.insert(rng.randint(max(0, at - 2), min(len(found), at + 2)), statement)
    if change == "double":
        found.insert(at, statement)
    if change == "put in":
        found[at:at] = some_code(rng, 1)
    return tuple(found)


def some_pairs(seed, many):
    """So many pairs of stretches that keep the same registers, the second often made of the first by changes."""
    rng = random.Random(seed)
    found = []
    for _ in range(many):
        code = some_code(rng, rng.randint(0, 6))
        other = code
        for _ in range(rng.randint(1, 2)):
            other = some_change(rng, other)
        keeps = tuple(sorted(rng.sample(REGISTERS, rng.randint(0, 2))))
        found.append((large(code, keeps), large(other, keeps)))
    return found


def large(code, keeps=()):
    """A stretch whose code may pass the bounds."""
    found = Stretch((), keeps)
    for statement in code[::-1]:
        found = Stretch((statement,)) + found
    return found


def some_program(rng, many=2, longest=4, shows=0.4):
    """A small program of so many threads."""
    threads = []
    for _ in range(many):
        code = list(some_code(rng, rng.randint(0, longest)))
        for _ in range(2):
            if rng.random() < shows:
                code.insert(rng.randint(0, len(code)), ("show", rng.choice(REGISTERS)))
        threads.append(tuple(code))
    cells = {cell: rng.choice(("a", "b", "f(a)", cell + ".1")) for cell in CELLS if rng.random() < 0.3}
    pairs = [(test, value) for test in "pq" for value in ("a", "b", "c", "x.1", "f(a)", "g()")]
    answers = {pair: rng.random() < 0.7 for pair in pairs if rng.random() < 0.5}
    return Program(tuple(threads), cells=rng.choice((None, cells)), answers=rng.choice((None, answers)))
