"""Values of all the kinds that can come to a parameter, for the tests of wrong arguments."""

from orderlymoves.base.stretches import Stretch
from orderlymoves.errors import InvalidNumber, MoveError, Unanswered


def nested(value, deep):
    """The value in lists, tuples and dicts, so many of them around one another."""
    for level in range(deep):
        value = ([value], (value, level), {"a": value, 1: None})[level % 3]
    return value


def others():
    """Values that are neither strings nor tuples."""
    return [
        0, 1, 2, 7, -1, 10 ** 12, -(10 ** 39), 10 ** 40 - 1, True, False, None,
        [], ["a"], ["a", "b"], [("put", "a")], [()], {}, {"a": "b"}, {"a": True}, {("p", "a"): False}, {1: [2]},
        Stretch(()), Stretch((("read", "a", "x"),), ("a",)), MoveError("a"), InvalidNumber([1]), Unanswered("p", "a"),
        [Stretch(())], nested("a", 12), nested(Stretch(()), 10), nested(nested(None, 6), 6), nested((), 9),
    ]


def tuples():
    """Tuples that are neither sets of names nor code."""
    return [
        (1,), (None,), (True,), ("",), ("get",), ("a", 1), ("a", None), (("a",),), (["a"],), ({},), ("a", ["b"]),
        (Stretch(()),), ("a", "a"), ("b", "a"), ("a", "c", "b"), ("a", "A"), (nested("a", 11),), nested("a", 11),
        nested((), 11), ((((((((((((),),),),),),),),),),),), (10 ** 39,), ("a" * 400,), ("abcdefghi",),
    ]


def no_names():
    """Strings that are no names."""
    return [
        "", " ", "\n", "a\n", "\na", " a", "a ", "a b", "A", "aB", "Ab", "a1", "1", "0", "a_", "_a", "a-b", "a,b",
        "a.1", "get.1", "f()", "f(a)", "abcdefghi", "z" * 9, "a" * 400, "~" * 400, "\n" * 400,
        "else", "end", "get", "if", "put", "show", "()", "(", "`", "{", "@", "[", "None", "True",
    ]


def no_values():
    """Strings that are no values."""
    return [
        "", " ", "\n", "a\n", "\na", " a", "a ", "a b", "A", "a1", "1", "abcdefghi", "else", "end", "get", "if",
        "put", "show", "x.", ".1", ".", "x.0", "x.01", "x.00", "x.-1", "x.+1", "x.a", "x.1a", "x.1.2", "x..1", "x. 1",
        "x .1", "x.1 ", "x.1\n", "X.1", "x.1_0", "get.0", "get.01", "get.", "put.1", "if.1", "show.1", "else.1",
        "end.1", "abcdefghi.1", "a1.1", "get()", "get(a)", "if(a)", "put()", "abcdefghi()", "F()", "f1()", "f.1()",
        "x.1(a)", "f(", "f)", "f(a", "fa)", "()", "(a)", "(a, b)", "f()()", "f(a)b", "f()a", "f(a)(b)", "f(())",
        "f((a))", "f(a,b)", "f(a,  b)", "f(a , b)", "f( a)", "f(a )", "f( )", "f (a)", " f(a)", "f(a) ", "f(a)\n",
        "f(\na)", "f(a,\nb)", "f(a;b)", "f(a b)", "f(,)", "f(, )", "f(a, )", "f(, a)", "f(a,)", "f(,a)", "f(a, b, c)",
        "f(a, b, )", "f(, , )", "f(a))", "f((a)", "f(g(a)", "f(g(a)))", "f(a), g(b)", "a, b", "a,b", ", ", "a, ",
        "f(g(a, b, c))", "f(g(), h(), i())", "f(a, g(b, c, d))", "f(g(a), get)", "f(g(x.01), a)", "f(if)", "f(get)",
        "f(a, put)", "f[a]", "f{a}", "f(a]", "f(a.b)", "f(1)", "f(A)", "f(g(a)h)", "f(a g(b))", "f(g(a)g(b))",
        "f(a)g(b)", "f(a)f(", ")f(", ")(", "f)a(", "((((", "))))", "(" * 400, ")" * 400, "f(" * 200, "a" * 400,
        "f(" * 133 + "a" + ")" * 132, "f(" * 132 + "a" + ")" * 133, ", " * 200, "x." + "0" * 398,
    ]
