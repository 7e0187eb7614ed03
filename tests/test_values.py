"""Names, sets of names, values and unknowns."""

import unittest

from orderlymoves.base import values
from orderlymoves.base.values import applied, atoms, is_name, is_set, is_value, parts, unknown
from orderlymoves.errors import InvalidNumber, InvalidOperation, InvalidValue
from samples import no_names, no_values, others, tuples

WORDS = ("else", "end", "get", "if", "put", "show")
NAMES = ["a", "z", "q", "ab", "zz", "abcdefg", "abcdefgh", "zzzzzzzz", "gets", "ge", "i", "iff", "fi", "elsex",
         "els", "ends", "en", "puts", "pu", "shows", "sho", "read", "write", "set", "copy", "none", "true"]
SETS = [(), ("a",), ("a", "b"), ("a", "aa", "ab", "b"), ("r", "s"), ("abcdefgh", "z"),
        tuple("abcdefghijklmnopqrstuvwxyz")]
VALUES = ["a", "z", "abcdefgh", "gets", "x.1", "x.9", "x.10", "x.100", "x.999", "x.1000", "x.123456789012345",
          "abcdefgh.1", "get.1", "get.2", "get.10", "get.1000", "f()", "abcdefgh()", "f(a)", "f(a, b)", "f(a, a)",
          "f(f)", "f(x.1)", "f(get.1)", "f(x.1, get.2)", "f(g())", "f(g(), h())", "f(g(x.1), get.2)",
          "f(a, g(b, c))", "f(g(b, c), a)", "f(g(b, c), h(d, e))", "f(f(f(f(a, b), c), d), e)", "f(a, f(b, f(c, f())))",
          "f(" * 133 + "a" + ")" * 133, "f(" * 133 + ")" * 133, "f(a, " * 66 + "b" + ")" * 66, "x." + "9" * 398]
MANY = "f(" * 3000 + "a, b" + ")" * 3000


class Constants(unittest.TestCase):
    def test_they_are_as_told(self):
        self.assertEqual((values.MAX_LETTERS, values.WORDS), (8, WORDS))

    def test_functions_are_defined_in_this_module(self):
        for function in (applied, atoms, is_name, is_set, is_value, parts, unknown):
            self.assertEqual(function.__module__, "orderlymoves.base.values")


class IsName(unittest.TestCase):
    def test_names(self):
        for name in NAMES:
            self.assertIs(is_name(name), True, name)

    def test_each_letter_alone_and_behind_another_one(self):
        for letter in "abcdefghijklmnopqrstuvwxyz":
            self.assertIs(is_name(letter), True)
            self.assertIs(is_name("a" + letter), True)

    def test_each_other_sign(self):
        for sign in [chr(code) for code in range(32, 127)] + ["\n"]:
            if not "a" <= sign <= "z":
                for text in (sign, "a" + sign, sign + "a", "a" + sign + "a"):
                    self.assertIs(is_name(text), False, text)

    def test_eight_and_nine_letters(self):
        self.assertIs(is_name("abcdefgh"), True)
        self.assertIs(is_name("abcdefghi"), False)

    def test_reserved_words(self):
        for word in WORDS:
            self.assertIs(is_name(word), False, word)

    def test_what_is_no_name(self):
        for value in no_names() + others() + tuples() + SETS:
            self.assertIs(is_name(value), False, value)


class IsSet(unittest.TestCase):
    def test_sets(self):
        for value in SETS:
            self.assertIs(is_set(value), True, value)

    def test_what_does_not_ascend(self):
        for value in (("a", "a"), ("b", "a"), ("a", "b", "b"), ("a", "c", "b"), ("ab", "a"), ("b", "a", "c")):
            self.assertIs(is_set(value), False, value)

    def test_what_has_other_members(self):
        for wrong in no_names() + others() + tuples():
            for value in ((wrong,), ("a", wrong), (wrong, "z")):
                self.assertIs(is_set(value), False, value)

    def test_what_is_no_set(self):
        for value in no_names() + NAMES + others() + tuples():
            self.assertIs(is_set(value), False, value)
        self.assertIs(is_set(["a", "b"]), False)


class IsValue(unittest.TestCase):
    def test_values(self):
        for value in VALUES:
            self.assertIs(is_value(value), True, value)

    def test_names_are_values(self):
        for name in NAMES:
            self.assertIs(is_value(name), True, name)

    def test_strings_that_are_no_values(self):
        for value in no_values():
            self.assertIs(is_value(value), False, value)

    def test_no_values_inside_of_values(self):
        for value in no_values():
            if value not in ("", "a, b", "f(a), g(b)"):
                self.assertIs(is_value(f"f({value})"), False, value)
            self.assertIs(is_value(f"f({value}, a)"), False, value)
            self.assertIs(is_value(f"f(a, {value})"), False, value)

    def test_other_kinds_are_no_values(self):
        for value in others() + tuples() + SETS:
            self.assertIs(is_value(value), False, value)

    def test_functions_have_names(self):
        for word in NAMES:
            self.assertIs(is_value(word + "(a)"), True, word)
        for word in no_names():
            self.assertIs(is_value(word + "(a)"), False, word)

    def test_unknowns_have_names_or_get(self):
        for word in NAMES + ["get"]:
            self.assertIs(is_value(word + ".1"), True, word)
        for word in no_names():
            if word != "get":
                self.assertIs(is_value(word + ".1"), False, word)

    def test_one_sign_more_or_less(self):
        self.assertIs(is_value("f(g(x.1), get.2)"), True)
        for at in range(17):
            for sign in "()., \nA0":
                text = "f(g(x.1), get.2)"[:at] + sign + "f(g(x.1), get.2)"[at:]
                self.assertIs(is_value(text), text in ("f(g(x.10), get.2)", "f(g(x.1), get.20)"), text)

    def test_values_can_be_long_and_deep(self):
        self.assertIs(is_value(MANY), True)
        value = "abcdefgh.1"
        for _ in range(6):
            value = f"abcdefgh({value}, {value})"
        self.assertIs(is_value(value), True)


class Unknown(unittest.TestCase):
    def test_unknowns(self):
        self.assertEqual([unknown("x", 1), unknown("abcdefgh", 12), unknown("get", 2), unknown("a", 999)],
                         ["x.1", "abcdefgh.12", "get.2", "a.999"])

    def test_unknowns_are_values(self):
        for name in NAMES + ["get"]:
            self.assertIs(is_value(unknown(name, 10)), True)

    def test_wrong_names(self):
        for wrong in no_names() + others() + tuples() + SETS:
            if wrong != "get":
                for number in (1, 0, None, []):
                    with self.subTest(wrong=wrong), self.assertRaises(InvalidOperation):
                        unknown(wrong, number)

    def test_wrong_numbers(self):
        for wrong in (0, -1, 1000, 1001, 10 ** 40 - 1, -(10 ** 39), True, False, None, "1", "", "a", [], [1], (1,), {}):
            for name in ("x", "get"):
                with self.subTest(wrong=wrong), self.assertRaises(InvalidNumber) as caught:
                    unknown(name, wrong)
                self.assertEqual(caught.exception.value, wrong)
                self.assertIs(type(caught.exception.value), type(wrong))

    def test_wrong_numbers_of_all_kinds(self):
        for wrong in [value for value in others() if not (type(value) is int and 0 < value < 1000)] + tuples():
            with self.subTest(wrong=wrong), self.assertRaises(InvalidNumber):
                unknown("x", wrong)


class Applied(unittest.TestCase):
    def test_values_of_functions(self):
        self.assertEqual(applied("f"), "f()")
        self.assertEqual(applied("f", "a"), "f(a)")
        self.assertEqual(applied("f", "a", "b"), "f(a, b)")
        self.assertEqual(applied("abcdefgh", "f()", "g(x.1, get.2)"), "abcdefgh(f(), g(x.1, get.2))")

    def test_they_are_values_and_have_parts(self):
        for one in VALUES:
            for other in VALUES:
                value = applied("f", one, other)
                self.assertIs(is_value(value), True)
                self.assertEqual(parts(value), ("f", (one, other)))
            self.assertEqual(parts(applied("g", one)), ("g", (one,)))

    def test_wrong_functions(self):
        for wrong in no_names() + others() + tuples() + SETS:
            for rest in ((), ("a",), ("a", "b"), (1,), ("a", None), ("a", "b", "c")):
                with self.subTest(wrong=wrong), self.assertRaises(InvalidOperation):
                    applied(wrong, *rest)

    def test_more_than_two_values(self):
        for rest in (("a", "b", "c"), ("a", "b", "c", "d"), (1, 2, 3), ("a", "b", ""), ("f(a,b)", "a", "b")):
            with self.subTest(rest=rest), self.assertRaises(InvalidOperation):
                applied("f", *rest)

    def test_what_is_no_value(self):
        for wrong in no_values() + others() + tuples() + SETS:
            for rest in ((wrong,), (wrong, "a"), ("a", wrong), (wrong, wrong)):
                with self.subTest(rest=rest), self.assertRaises(InvalidValue):
                    applied("f", *rest)


class Parts(unittest.TestCase):
    def test_values_of_functions(self):
        self.assertEqual(parts("f()"), ("f", ()))
        self.assertEqual(parts("f(a)"), ("f", ("a",)))
        self.assertEqual(parts("f(a, b)"), ("f", ("a", "b")))
        self.assertEqual(parts("f(g(a, b))"), ("f", ("g(a, b)",)))
        self.assertEqual(parts("f(g(a, b), h(c, d))"), ("f", ("g(a, b)", "h(c, d)")))
        self.assertEqual(parts("abcdefgh(g(h()), g(h(), i(a, b)))"), ("abcdefgh", ("g(h())", "g(h(), i(a, b))")))
        self.assertEqual(parts(MANY), ("f", (MANY[2:-1],)))

    def test_other_values(self):
        for value in ("a", "abcdefgh", "x.1", "x.10", "get.1"):
            self.assertIsNone(parts(value))

    def test_what_is_no_value(self):
        for wrong in no_values() + others() + tuples() + SETS:
            with self.subTest(wrong=wrong), self.assertRaises(InvalidValue):
                parts(wrong)


class Atoms(unittest.TestCase):
    def test_values_without_functions(self):
        self.assertEqual([atoms("a"), atoms("x.1"), atoms("get.10")], [("a",), ("x.1",), ("get.10",)])

    def test_values_of_functions(self):
        self.assertEqual(atoms("f()"), ())
        self.assertEqual(atoms("f(g(), h(i()))"), ())
        self.assertEqual(atoms("f(b, a)"), ("a", "b"))
        self.assertEqual(atoms("f(a, a)"), ("a",))
        self.assertEqual(atoms("f(f)"), ("f",))
        self.assertEqual(atoms("f(g(f), g)"), ("f", "g"))
        self.assertEqual(atoms("f(g(x.1, get.2), h(x, x.1))"), ("get.2", "x", "x.1"))
        self.assertEqual(atoms(MANY), ("a", "b"))

    def test_they_ascend_as_strings(self):
        self.assertEqual(atoms("f(g(x.2, x.10), g(x.1, x))"), ("x", "x.1", "x.10", "x.2"))

    def test_what_is_no_value(self):
        for wrong in no_values() + others() + tuples() + SETS:
            with self.subTest(wrong=wrong), self.assertRaises(InvalidValue):
                atoms(wrong)


if __name__ == "__main__":
    unittest.main()
