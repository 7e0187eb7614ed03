"""Code and stretches: forms, bounds, properties and operators."""

import unittest

from orderlymoves.base import stretches
from orderlymoves.base.stretches import Stretch, is_code
from orderlymoves.errors import InvalidNumber, InvalidOperation, InvalidStretch
from samples import no_names, others, tuples

READ = ("read", "r", "x")
WRITE = ("write", "x", "r")
SET = ("set", "r", "f", ("a",))
CONSTANT = ("set", "r", "f", ())
COPY = ("copy", "r", "a")
GET = ("get", "r")
PUT = ("put", "r")
SHOW = ("show", "r")
PLAIN = (READ, WRITE, SET, CONSTANT, COPY, GET, PUT)


def choice(yes=(), no=()):
    """An if with two codes."""
    return ("if", "p", "r", yes, no)


def nest(deep, inner=(), on_yes=True):
    """Ifs in one another, so many, around code."""
    for _ in range(deep):
        inner = (choice(inner, ()),) if on_yes else (choice((), inner),)
    return inner


def wrong_statements():
    """What is no statement of a stretch."""
    found = [SHOW, (), ("read",), ("jump", "r"), ("", "r"), ("Put", "r"), ("put ", "r"), ("r", "put"), ["put", "r"],
             "put r", "put", {"put": "r"}, ((),), (PUT,), (("put",), "r"), (["put"], "r"), ({}, "r"), (None, "r"),
             (1, "r"), (True, "r"), (Stretch(()), "r")]
    for statement in PLAIN + (choice(),):
        found.append(statement[:-1])
        found.append(statement + ("a",))
        found.append(statement + ((),))
        found.append(list(statement))
    return found


def with_wrong_parts():
    """Statements with a part that is wrong, for each part of each."""
    found = []
    for wrong in no_names() + others() + tuples() + [()]:
        for statement in PLAIN + (choice(),):
            for at in range(1, 3):
                if at < len(statement):
                    found.append(statement[:at] + (wrong,) + statement[at + 1:])
    for wrong in no_names() + ["a", "ab"] + others() + tuples()[:11] + [("a", "b", "c"), (("a", "b"),), ("a", "get")]:
        found.append(("set", "r", "f", wrong))
    for wrong in no_names() + ["a"] + others() + tuples() + [("a",), PUT, [PUT], (list(PUT),), (SHOW,), (PUT, SHOW)]:
        found.append(("if", "p", "r", wrong, ()))
        found.append(("if", "p", "r", (), wrong))
        found.append(("if", "p", "r", (PUT,), wrong))
    return found


class Constants(unittest.TestCase):
    def test_they_are_as_told(self):
        found = (stretches.MAX_STATEMENTS, stretches.MAX_CELLS, stretches.MAX_KEPT, stretches.MAX_LETTERS_SENT,
                 stretches.MAX_SETS, stretches.MAX_TESTS)
        self.assertEqual(found, (24, 4, 4, 6, 6, 3))

    def test_all_is_defined_in_this_module(self):
        self.assertEqual((is_code.__module__, Stretch.__module__), ("orderlymoves.base.stretches",) * 2)
        for name in ("__init__", "code", "keeps", "cells", "registers", "functions", "tests", "is_straight", "size",
                     "__add__", "renamed", "keeping", "__getitem__", "__len__", "__contains__", "__eq__", "__str__"):
            self.assertIn(name, vars(Stretch))


class IsCode(unittest.TestCase):
    def test_each_statement(self):
        for statement in PLAIN + (choice(), choice((PUT,)), choice((), (PUT,)), choice((GET, PUT), (READ, WRITE))):
            self.assertIs(is_code((statement,)), True, statement)
        self.assertIs(is_code(PLAIN), True)

    def test_empty_code(self):
        self.assertIs(is_code(()), True)

    def test_sets_of_up_to_two_registers(self):
        for args in ((), ("a",), ("a", "b"), ("b", "a"), ("a", "a"), ("r", "f")):
            self.assertIs(is_code((("set", "r", "f", args),)), True, args)
        self.assertIs(is_code((("set", "r", "f", ("a", "b", "c")),)), False)

    def test_one_name_for_all(self):
        self.assertIs(is_code((("read", "a", "a"), ("set", "a", "a", ("a", "a")), ("if", "a", "a", (), ()))), True)

    def test_words_of_other_statements_are_names(self):
        self.assertIs(is_code((("read", "read", "write"), ("copy", "set", "copy"))), True)

    def test_names_of_eight_and_nine_letters(self):
        for good in (("put", "abcdefgh"), ("read", "abcdefgh", "r"), ("if", "abcdefgh", "r", (), ()),
                     ("write", "x", "abcdefgh"), ("set", "r", "abcdefgh", ())):
            self.assertIs(is_code((good,)), True)
            longer = tuple("abcdefghi" if part == "abcdefgh" else part for part in good)
            self.assertIs(is_code((longer,)), False)
        self.assertIs(is_code((("set", "r", "f", ("a", "abcdefgh")),)), True)
        self.assertIs(is_code((("set", "r", "f", ("a", "abcdefghi")),)), False)

    def test_show_is_no_part_of_it(self):
        for code in ((SHOW,), (PUT, SHOW), (choice((SHOW,)),), (choice((), (PUT, SHOW)),), nest(3, (SHOW,))):
            self.assertIs(is_code(code), False, code)

    def test_wrong_statements(self):
        for wrong in wrong_statements() + with_wrong_parts():
            for code in ((wrong,), (PUT, wrong), (wrong, PUT), (choice((wrong,)),), (choice((), (wrong,)),)):
                self.assertIs(is_code(code), False, code)

    def test_what_is_no_code(self):
        for value in others() + tuples() + no_names() + list(PLAIN) + [[PUT], [], "put", {PUT: PUT}, choice()]:
            self.assertIs(is_code(value), False, value)

    def test_ifs_nested_three_and_four_deep(self):
        for on_yes in (True, False):
            for deep in range(4):
                self.assertIs(is_code(nest(deep, (PUT,), on_yes)), True)
                self.assertIs(is_code(nest(deep, (), on_yes)), True)
            for deep in range(4, 7):
                self.assertIs(is_code(nest(deep, (PUT,), on_yes)), False)
                self.assertIs(is_code(nest(deep, (), on_yes)), False)
        self.assertIs(is_code((choice(nest(1), (choice((), nest(1)),)),)), True)
        self.assertIs(is_code((choice(nest(1), (choice((), nest(2)),)),)), False)
        self.assertIs(is_code((PUT,) + nest(4)), False)

    def test_any_size(self):
        for code in ((PUT,) * 500, (GET,) * 7, (SET,) * 100, (choice(),) * 100, nest(3, (READ,) * 100),
                     tuple(("read", "r", "a" * k) for k in range(1, 9))):
            self.assertIs(is_code(code), True)


class Bounds(unittest.TestCase):
    def good(self, code, keeps=()):
        stretch = Stretch(code, keeps)
        self.assertEqual((stretch.code, stretch.keeps), (code, keeps))

    def bad(self, code, keeps=()):
        with self.assertRaises(InvalidStretch, msg=(code, keeps)):
            Stretch(code, keeps)

    def test_the_size(self):
        self.good((READ,) * 24)
        self.bad((READ,) * 25)
        self.good((CONSTANT,) * 24)
        self.bad((CONSTANT,) * 25)
        self.good((COPY,) * 24)
        self.bad((COPY,) * 30)

    def test_the_size_counts_ifs_and_both_codes(self):
        self.good((choice((READ,) * 23),))
        self.bad((choice((READ,) * 24),))
        self.good((choice((), (READ,) * 23),))
        self.bad((choice((), (READ,) * 24),))
        self.good((choice((READ,) * 12, (WRITE,) * 11),))
        self.bad((choice((READ,) * 12, (WRITE,) * 12),))
        self.good(nest(3, (READ,) * 21))
        self.bad(nest(3, (READ,) * 22))
        self.good((choice((READ,) * 7, (READ,) * 7), READ) + nest(2, (READ,) * 6))
        self.bad((choice((READ,) * 7, (READ,) * 7), READ) + nest(2, (READ,) * 7))

    def test_the_cells(self):
        reads = tuple(("read", "r", cell) for cell in ("a", "b", "c", "d", "e"))
        writes = tuple(("write", cell, "r") for cell in ("a", "b", "c", "d", "e"))
        self.good(reads[:4])
        self.bad(reads)
        self.good(writes[:4])
        self.bad(writes)
        self.good(reads[:4] + writes[:4])
        self.bad(reads[:4] + writes[4:])
        self.good(reads[:2] + (choice(reads[2:3], writes[3:4]),))
        self.bad(reads[:2] + (choice(reads[2:4], writes[4:]),))
        self.bad(reads[:2] + (choice((), nest(2, reads[2:])),))

    def test_registers_functions_and_tests_are_not_bounded(self):
        self.good(tuple(("copy", letter, letter + "b") for letter in "abcdefghijklmnop"))
        self.good(tuple(("set", "a", letter, ()) for letter in "abcdefghijklmnop"))
        self.good((("if", "a", "a", (("if", "b", "b", (), ()),), (("if", "c", "c", (), ()), ("if", "d", "d", (), ()))),))

    def test_letter_statements_on_a_path(self):
        self.good((GET,) * 6)
        self.bad((GET,) * 7)
        self.good((PUT,) * 6)
        self.bad((PUT,) * 7)
        self.good((GET, PUT) * 3)
        self.bad((GET, PUT) * 3 + (GET,))
        self.good((choice((GET,) * 6, (PUT,) * 6),))
        self.bad((choice((GET,) * 7, ()),))
        self.bad((choice((), (PUT,) * 7),))
        self.good((GET,) * 3 + (choice((GET,) * 3, (PUT,) * 3),))
        self.bad((GET,) * 3 + (choice((PUT,) * 4, ()),))
        self.bad((GET,) * 3 + (choice((GET,), (PUT,) * 4),))
        self.bad((choice((GET,), (PUT,) * 4), PUT, GET, PUT))
        self.good(nest(3, (GET,) * 5) + (PUT,))
        self.bad(nest(3, (GET,) * 5) + (PUT, PUT))
        self.good((choice(nest(1, (PUT,) * 6), (GET,) * 6),))
        self.bad((choice((PUT,) + nest(1, (PUT,) * 6), (GET,) * 6),))

    def test_a_path_takes_codes_whatever_the_answers(self):
        self.good((choice((PUT,) * 3, ()), choice((), (PUT,) * 3)))
        self.bad((choice((PUT,) * 4, ()), choice((), (PUT,) * 3)))
        self.bad((choice((SET,) * 4, ()), choice((), (SET,) * 3)))
        self.good((choice((SET,) * 3, (SET,)), choice((), (SET,) * 3)))

    def test_set_statements_on_a_path(self):
        two = ("set", "r", "f", ("a", "b"))
        for statement in (SET, two):
            self.good((statement,) * 6)
            self.bad((statement,) * 7)
            self.good((statement,) * 6 + (CONSTANT,) * 18)
            self.bad((statement,) * 6 + (CONSTANT, statement))
            self.good((choice((statement,) * 6, (statement,) * 6),))
            self.bad((choice((statement,) * 7, ()),))
            self.bad((choice((), (statement,) * 7),))
            self.good((statement,) * 2 + (choice((statement,) * 4, (statement,) * 3),))
            self.bad((statement,) * 2 + (choice((statement,) * 2, (statement,) * 5),))
            self.bad((statement,) + nest(3, (statement,) * 6))
        self.good((SET,) * 3 + (two,) * 3)
        self.bad((SET,) * 4 + (two,) * 3)

    def test_ifs_on_a_path(self):
        self.good((choice(),) * 3)
        self.bad((choice(),) * 4)
        self.good(nest(3))
        self.good(nest(3, (), False))
        self.bad(nest(3) + (choice(),))
        self.bad((choice(),) + nest(3, (), False))
        self.good((choice((choice(),) * 2, (choice(),) * 2),))
        self.bad((choice((choice(),) * 3, ()),))
        self.bad((choice((), (choice(),) * 3),))
        self.good((choice((choice(),), nest(1)), choice()))
        self.bad((choice((choice(),), nest(2)), choice()))
        self.bad((choice((choice(),) * 3, nest(2)),))

    def test_all_bounds_at_once(self):
        cells = tuple(("write", cell, "r") for cell in ("a", "b", "c", "d"))
        code = cells + (GET, PUT) * 3 + (SET,) * 6 + (choice((), nest(2, (READ[:2] + ("a",),) * 5)),)
        self.good(code, ("a", "b", "c", "d"))
        self.assertEqual(Stretch(code).size, 24)
        self.bad(code + (COPY,), ("a", "b", "c", "d"))

    def test_the_bounds_are_counted_apart(self):
        self.good((GET,) * 6 + (SET,) * 6 + (choice(),) * 3)
        self.good((READ, WRITE, COPY) * 8)

    def test_ifs_nested_four_deep(self):
        self.bad(nest(4))
        self.bad(nest(4, (), False))

    def test_what_is_no_code(self):
        for value in others() + tuples() + no_names() + [[PUT], (list(PUT),), PUT, (SHOW,), (PUT, SHOW)]:
            self.bad(value)
            self.bad(value, ("a",))
            self.bad(value, ["a"])
            self.bad(value, None)
        for wrong in wrong_statements() + with_wrong_parts():
            self.bad((wrong,))
            self.bad((PUT, choice((), (wrong,))))

    def test_kept_registers(self):
        for keeps in ((), ("a",), ("a", "b"), ("a", "b", "c"), ("a", "b", "c", "d"), ("abcdefgh",), ("r", "x")):
            self.good((PUT,), keeps)
            self.good((), keeps)
        self.bad((PUT,), ("a", "b", "c", "d", "e"))
        self.bad((), ("a", "b", "c", "d", "e", "f"))

    def test_wrong_kept_registers(self):
        for wrong in others() + tuples() + no_names() + ["a", "r", ["r"], {"r": "r"}, ("abcdefghi",), ("s", "r")]:
            self.bad((PUT,), wrong)
            self.bad((), wrong)

    def test_keeps_by_name_and_by_default(self):
        self.assertEqual(Stretch(code=(PUT,), keeps=("a",)).keeps, ("a",))
        self.assertEqual(Stretch((PUT,)).keeps, ())


class Properties(unittest.TestCase):
    def test_names_that_stand_in_each_statement(self):
        for statement, cells, registers, functions, tests in (
            (("read", "c", "b"), ("b",), ("c",), (), ()),
            (("write", "c", "b"), ("c",), ("b",), (), ()),
            (("set", "d", "e", ()), (), ("d",), ("e",), ()),
            (("set", "d", "e", ("c",)), (), ("c", "d"), ("e",), ()),
            (("set", "d", "e", ("f", "c")), (), ("c", "d", "f"), ("e",), ()),
            (("copy", "d", "c"), (), ("c", "d"), (), ()),
            (("get", "d"), (), ("d",), (), ()),
            (("put", "d"), (), ("d",), (), ()),
            (("if", "d", "c", (), ()), (), ("c",), (), ("d",)),
            (("if", "d", "c", (("put", "b"),), (("read", "a", "e"),)), ("e",), ("a", "b", "c"), (), ("d",)),
        ):
            for code in ((statement,), (statement, statement)):
                stretch = Stretch(code)
                found = (stretch.cells, stretch.registers, stretch.functions, stretch.tests)
                self.assertEqual(found, (cells, registers, functions, tests), statement)

    def test_names_are_sets_of_all_that_stands_in_the_code(self):
        stretch = Stretch((
            ("read", "z", "d"), ("write", "b", "y"), ("set", "k", "h", ("m", "l")),
            ("if", "q", "n", (("if", "p", "o", (("read", "j", "a"), ("set", "i", "g", ())), ()),),
             (("copy", "t", "s"), ("write", "c", "z"), ("if", "r", "u", (), (("set", "v", "f", ("w",)),)))),
            ("get", "e"), ("put", "c"),
        ), ("a", "z", "zz"))
        self.assertEqual(stretch.cells, ("a", "b", "c", "d"))
        self.assertEqual(stretch.registers, ("a", "c", "e", "i", "j", "k", "l", "m", "n", "o", "s", "t", "u", "v",
                                             "w", "y", "z", "zz"))
        self.assertEqual((stretch.functions, stretch.tests), (("f", "g", "h"), ("p", "q", "r")))
        self.assertEqual((stretch.size, len(stretch), stretch.is_straight), (13, 6, False))

    def test_empty_stretch(self):
        stretch = Stretch(())
        self.assertEqual((stretch.code, stretch.keeps, stretch.cells, stretch.registers), ((), (), (), ()))
        self.assertEqual((stretch.functions, stretch.tests, stretch.is_straight), ((), (), True))
        self.assertEqual((stretch.size, len(stretch)), (0, 0))

    def test_kept_registers_are_registers(self):
        stretch = Stretch((("put", "b"),), ("a", "b", "c"))
        self.assertEqual((stretch.registers, stretch.cells), (("a", "b", "c"), ()))
        self.assertEqual(Stretch((), ("c", "d")).registers, ("c", "d"))

    def test_is_straight(self):
        self.assertIs(Stretch(PLAIN).is_straight, True)
        self.assertIs(Stretch((choice(),)).is_straight, False)
        self.assertIs(Stretch((PUT, PUT, choice())).is_straight, False)
        self.assertIs(Stretch((choice((PUT,)), PUT)).is_straight, False)

    def test_size_and_length(self):
        for code, size, length in (((PUT,), 1, 1), ((PUT, GET, READ), 3, 3), ((choice(),), 1, 1), (nest(3), 3, 1),
                                   ((choice((PUT, PUT), (GET,)), READ), 5, 2), (nest(2, (READ,) * 4), 6, 1),
                                   ((choice(nest(1, (PUT,)), nest(1, (), False)),), 4, 1)):
            self.assertEqual((Stretch(code).size, len(Stretch(code))), (size, length))

    def test_stretches_never_change(self):
        stretch = Stretch((READ,), ("r",))
        for name in ("code", "keeps", "cells", "registers", "functions", "tests", "is_straight", "size"):
            with self.assertRaises(AttributeError):
                setattr(stretch, name, ())
        stretch.renamed(cells={"x": "y"}, registers={"r": "s"})
        stretch.keeping(("a",))
        self.assertEqual((stretch + stretch).size, 2)
        for call in (lambda: stretch + 1, lambda: stretch[1], lambda: stretch.keeping(1),
                     lambda: stretch.renamed(cells={"x": "y"}, registers={})):
            with self.assertRaises((InvalidStretch, InvalidNumber, InvalidOperation)):
                call()
        self.assertEqual((stretch.code, stretch.keeps), ((READ,), ("r",)))


class Adding(unittest.TestCase):
    def test_code_behind_code(self):
        one, other = Stretch((READ, PUT), ("a", "b")), Stretch((GET, choice()), ("b", "c"))
        both = one + other
        self.assertIsInstance(both, Stretch)
        self.assertEqual((both.code, both.keeps), ((READ, PUT, GET, choice()), ("b", "c")))
        self.assertEqual(((other + one).code, (other + one).keeps), ((GET, choice(), READ, PUT), ("a", "b")))
        self.assertEqual((one.code, one.keeps, other.code), ((READ, PUT), ("a", "b"), (GET, choice())))

    def test_empty_code(self):
        one, empty = Stretch((PUT,), ("a",)), Stretch((), ("b",))
        self.assertEqual([one + empty, empty + one], [Stretch((PUT,), ("b",)), one])

    def test_registers_of_the_left_that_are_only_kept(self):
        self.assertEqual((Stretch((), ("a",)) + Stretch((PUT,))).registers, ("r",))

    def test_bounds_are_not_looked_at(self):
        for code in ((READ,) * 24, (GET,) * 6, (SET,) * 6, (choice(),) * 3, nest(3),
                     tuple(("read", "r", cell) for cell in ("a", "b", "c", "d"))):
            one = Stretch(code)
            other = one.renamed(cells={cell: cell + "z" for cell in one.cells})
            self.assertEqual((one + other).code, one.code + other.code)
            self.assertEqual((one + other + one).code, one.code + other.code + one.code)
            self.assertEqual((one + (other + one)).size, 3 * one.size)
            with self.assertRaises(InvalidStretch):
                Stretch((one + other).code)
        self.assertEqual((one + other).cells, ("a", "az", "b", "bz", "c", "cz", "d", "dz"))

    def test_what_is_no_stretch(self):
        one = Stretch((PUT,), ("a",))
        for wrong in no_names() + tuples() + [value for value in others() if not isinstance(value, Stretch)]:
            with self.subTest(wrong=wrong), self.assertRaises(InvalidStretch):
                one + wrong
        for wrong in ((PUT,), (), one.code, one.keeps, str(one)):
            with self.subTest(wrong=wrong), self.assertRaises(InvalidStretch):
                one + wrong


class Renaming(unittest.TestCase):
    STRETCH = Stretch((
        ("read", "a", "x"), ("write", "y", "b"), ("set", "c", "a", ("a", "x")), ("copy", "a", "b"), ("get", "x"),
        ("put", "y"), ("if", "x", "a", (("write", "x", "a"),), (("if", "a", "c", (), (("put", "x"),)),)),
    ), ("a", "k", "x"))

    def test_nothing(self):
        self.assertEqual(self.STRETCH.renamed(), self.STRETCH)
        self.assertEqual(self.STRETCH.renamed(cells=None, registers=None), self.STRETCH)
        self.assertIsInstance(self.STRETCH.renamed(), Stretch)

    def test_cells(self):
        found = self.STRETCH.renamed(cells={"y": "x", "x": "p"})
        self.assertEqual(found.code, (
            ("read", "a", "p"), ("write", "x", "b"), ("set", "c", "a", ("a", "x")), ("copy", "a", "b"), ("get", "x"),
            ("put", "y"), ("if", "x", "a", (("write", "p", "a"),), (("if", "a", "c", (), (("put", "x"),)),)),
        ))
        self.assertEqual((found.keeps, found.cells), (("a", "k", "x"), ("p", "x")))

    def test_registers(self):
        names = {"a": "z", "b": "a", "c": "cc", "k": "b", "x": "xx", "y": "x"}
        found = self.STRETCH.renamed(registers=names)
        self.assertEqual(found.code, (
            ("read", "z", "x"), ("write", "y", "a"), ("set", "cc", "a", ("z", "xx")), ("copy", "z", "a"),
            ("get", "xx"), ("put", "x"),
            ("if", "x", "z", (("write", "x", "z"),), (("if", "a", "cc", (), (("put", "xx"),)),)),
        ))
        self.assertEqual(found.keeps, ("b", "xx", "z"))
        self.assertEqual(names, {"a": "z", "b": "a", "c": "cc", "k": "b", "x": "xx", "y": "x"})

    def test_both(self):
        one = Stretch((("read", "x", "x"), ("write", "y", "y")), ("x",))
        found = one.renamed(registers={"y": "x", "x": "y"}, cells={"x": "a", "y": "x"})
        self.assertEqual(found, Stretch((("read", "y", "a"), ("write", "x", "x")), ("y",)))
        self.assertEqual(one, Stretch((("read", "x", "x"), ("write", "y", "y")), ("x",)))

    def test_names_stay_the_same_or_change_places(self):
        one = Stretch((("read", "a", "x"), ("write", "y", "b")), ("a",))
        self.assertEqual(one.renamed(cells={"x": "x", "y": "y"}, registers={"a": "a", "b": "b"}), one)
        self.assertEqual(one.renamed(cells={"x": "y", "y": "x"}).code, (("read", "a", "y"), ("write", "x", "b")))

    def test_functions_and_tests_stay(self):
        one = Stretch((("set", "a", "a", ("a",)), ("if", "a", "a", (), ())))
        self.assertEqual(one.renamed(registers={"a": "b"}).code, (("set", "b", "a", ("b",)), ("if", "a", "b", (), ())))

    def test_no_cells_and_no_registers(self):
        self.assertEqual(Stretch((PUT,)).renamed(cells={}), Stretch((PUT,)))
        self.assertEqual(Stretch(()).renamed(cells={}, registers={}), Stretch(()))

    def test_kept_registers_that_are_not_in_the_code(self):
        self.assertEqual(Stretch((), ("a", "b")).renamed(registers={"a": "d", "b": "c"}), Stretch((), ("c", "d")))

    def test_the_dict_can_change_later(self):
        names = {"x": "y"}
        found = Stretch((READ,)).renamed(cells=names)
        names["x"] = "z"
        self.assertEqual(found.code, (("read", "r", "y"),))

    def test_bounds_are_not_looked_at(self):
        big = Stretch((READ,) * 24) + Stretch((GET,) * 6) + Stretch((GET,) * 6)
        found = big.renamed(cells={"x": "y"}, registers={"r": "s"})
        self.assertEqual(found.code, (("read", "s", "y"),) * 24 + (("get", "s"),) * 12)
        big = nested_cells() + nested_cells().renamed(cells={"a": "e", "b": "f", "c": "g", "d": "h"})
        self.assertEqual(big.renamed(), big)

    def test_wrong_cells(self):
        one = Stretch((("read", "a", "x"), ("write", "y", "b")), ("a",))
        for wrong in self.wrong_dicts("x", "y"):
            for registers in (None, {"a": "a", "b": "c"}, {}, 1):
                with self.subTest(wrong=wrong), self.assertRaises(InvalidOperation):
                    one.renamed(cells=wrong, registers=registers)

    def test_wrong_registers(self):
        one = Stretch((("read", "x", "a"),), ("y",))
        for wrong in self.wrong_dicts("x", "y"):
            for cells in (None, {"a": "a"}, {}, "a"):
                with self.subTest(wrong=wrong), self.assertRaises(InvalidOperation):
                    one.renamed(cells=cells, registers=wrong)

    def test_registers_that_are_only_kept_are_needed(self):
        one = Stretch((PUT,), ("a",))
        for wrong in ({"r": "r"}, {"a": "a"}, {"r": "a"}, {"r": "s", "a": "s"}):
            with self.subTest(wrong=wrong), self.assertRaises(InvalidOperation):
                one.renamed(registers=wrong)

    def test_names_are_passed_by_keyword(self):
        with self.assertRaises(TypeError):
            Stretch((READ,)).renamed({"x": "y"})

    def wrong_dicts(self, one, other):
        found = [{}, {one: "a"}, {other: "a"}, {one: "a", other: "a"}, {one: other, other: other},
                 {one: "a", other: "b", "z": "c"}, {one: "a", "z": "b"}, {"a": one, "b": other},
                 {one: "a", other: "b", 1: "c"}, {one: "a", 1: "b"}, {one: "a", None: "b"}, {one: "a", (other,): "b"},
                 [one, other], ((one, "a"), (other, "b")), [(one, "a"), (other, "b")], (one, other), one, "ab"]
        for wrong in no_names() + others() + tuples():
            found.append({one: "a", other: wrong})
            found.append({one: wrong, other: "b"})
        return found + [value for value in others() if value is not None] + tuples() + no_names()


def nested_cells():
    """A stretch with four cells, within ifs."""
    return Stretch(nest(3, tuple(("read", "r", cell) for cell in ("a", "b", "c", "d"))))


class Keeping(unittest.TestCase):
    def test_other_kept_registers(self):
        one = Stretch((PUT,), ("a",))
        for names in ((), ("a",), ("r",), ("b", "c"), ("a", "b", "c", "d")):
            found = one.keeping(names)
            self.assertIsInstance(found, Stretch)
            self.assertEqual((found.code, found.keeps), ((PUT,), names))
        self.assertEqual(one.keeps, ("a",))

    def test_it_looks_at_the_names_alone(self):
        big = Stretch((READ,) * 24) + Stretch((GET,) * 6) + Stretch((GET,) * 6) + nested_cells() + nested_cells()
        self.assertEqual(big.keeping(("a", "b")).code, big.code)
        self.assertEqual(big.keeping(("a", "b")).keeps, ("a", "b"))
        with self.assertRaises(InvalidOperation):
            big.keeping(("b", "a"))

    def test_wrong_names(self):
        for wrong in others() + tuples() + no_names() + ["a", "ab", ["a"], ("a", "b", "c", "d", "e"), ("b", "a"),
                                                         ("a", "a"), ("abcdefghi",), ("a", "get")]:
            with self.subTest(wrong=wrong), self.assertRaises(InvalidOperation):
                Stretch((PUT,)).keeping(wrong)


class Items(unittest.TestCase):
    def test_statements_of_the_outermost_code(self):
        code = (READ, choice((PUT,), (GET,)), WRITE)
        stretch = Stretch(code)
        self.assertEqual([stretch[0], stretch[1], stretch[2]], list(code))
        self.assertEqual(Stretch(nest(3))[0], nest(3)[0])
        self.assertEqual((Stretch((READ,) * 24) + Stretch((GET,)))[24], GET)

    def test_wrong_numbers(self):
        stretch = Stretch((READ, choice((PUT,), (GET,)), WRITE))
        for wrong in (-1, -3, 3, 4, 10 ** 40 - 1, -(10 ** 39), True, False, None, "0", "", "x", (), (0,), (0, 1), [],
                      [0], {}, {0: 1}, stretch):
            with self.subTest(wrong=wrong), self.assertRaises(InvalidNumber) as caught:
                stretch[wrong]
            self.assertEqual(caught.exception.value, wrong)
            self.assertIs(type(caught.exception.value), type(wrong))

    def test_wrong_numbers_of_all_kinds(self):
        for wrong in [value for value in others() if not type(value) is int] + tuples() + no_names():
            with self.subTest(wrong=wrong), self.assertRaises(InvalidNumber):
                Stretch((READ, WRITE))[wrong]

    def test_empty_code_has_none(self):
        for wrong in (0, 1, -1):
            with self.assertRaises(InvalidNumber) as caught:
                Stretch(())[wrong]
            self.assertEqual(caught.exception.value, wrong)

    def test_stretches_are_not_iterated_over(self):
        for stretch in (Stretch(()), Stretch((PUT, GET))):
            with self.assertRaises(TypeError):
                iter(stretch)
            with self.assertRaises(TypeError):
                list(stretch)
            with self.assertRaises(TypeError):
                for _ in stretch:
                    pass


class Membership(unittest.TestCase):
    def test_cells(self):
        stretch = Stretch((("read", "a", "x"), ("set", "c", "f", ()), ("if", "p", "d", (("write", "y", "e"),), ())),
                          ("k",))
        for name in "abcdefghijklmnopqrstuvwxyz":
            self.assertIs(name in stretch, name in ("x", "y"), name)
            self.assertIs(name not in stretch, name not in ("x", "y"), name)

    def test_every_value_can_be_asked_for(self):
        stretch = Stretch((READ, WRITE))
        for value in others() + tuples() + no_names() + ["xx", ("x",), ["x"], stretch, READ]:
            self.assertIs(value in stretch, False, value)
        self.assertNotIn("x", Stretch(()))


class Equality(unittest.TestCase):
    def same(self, one, other, expected):
        self.assertIs(one == other, expected)
        self.assertIs(other == one, expected)
        self.assertIs(one != other, not expected)
        self.assertIs(other != one, not expected)

    def test_equal_code_and_kept_registers(self):
        code = (READ, choice((PUT,), (GET,)))
        self.same(Stretch(code, ("a",)), Stretch((READ, choice((PUT,), (GET,))), ("a",)), True)
        self.same(Stretch(()), Stretch((), ()), True)
        self.same(Stretch((PUT,)) + Stretch((GET,), ("a",)), Stretch((PUT, GET), ("a",)), True)
        self.same(Stretch((READ,) * 24) + Stretch((PUT,)), Stretch((READ,)) + Stretch((READ,) * 23 + (PUT,)), True)

    def test_other_code_or_other_kept_registers(self):
        one = Stretch((READ, PUT), ("a",))
        for other in (Stretch((PUT, READ), ("a",)), Stretch((READ,), ("a",)), Stretch((READ, PUT)),
                      Stretch((READ, PUT), ("b",)), Stretch((READ, PUT), ("a", "b")), Stretch((READ, GET), ("a",)),
                      Stretch(()), Stretch((READ, PUT, PUT), ("a",))):
            self.same(one, other, False)
        self.same(Stretch((choice((PUT,)),)), Stretch((choice((), (PUT,)),)), False)

    def test_every_other_value(self):
        for value in others() + tuples() + no_names() + [(READ, PUT), ((READ, PUT), ("a",))]:
            self.same(Stretch((READ, PUT), ("a",)), value, False)


class Texts(unittest.TestCase):
    def test_sizes(self):
        for stretch, text in (
            (Stretch(()), "stretch of 0 statements, 0 cells, 0 kept"),
            (Stretch((READ, WRITE, PUT)), "stretch of 3 statements, 1 cells, 0 kept"),
            (Stretch((choice((PUT, READ), (WRITE,)), GET), ("a", "b", "c")), "stretch of 5 statements, 1 cells, 3 kept"),
            (Stretch((READ,) * 24) + Stretch((("write", "y", "a"),), ("a",)),
             "stretch of 25 statements, 2 cells, 1 kept"),
            (nested_cells().keeping(("a", "b", "c", "d")), "stretch of 7 statements, 4 cells, 4 kept"),
        ):
            self.assertEqual(str(stretch), text)


if __name__ == "__main__":
    unittest.main()
