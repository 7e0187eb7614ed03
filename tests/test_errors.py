"""The errors: of what they are derived, what they take, and what they keep."""

import unittest

from orderlymoves import errors
from orderlymoves.base.stretches import Stretch
from samples import no_names, others, tuples

BASES = {
    "MoveError": ValueError,
    "InvalidValue": errors.MoveError,
    "InvalidStretch": errors.MoveError,
    "InvalidProgram": errors.MoveError,
    "InvalidOperation": errors.MoveError,
    "ParseError": errors.MoveError,
    "UnknownName": KeyError,
    "Unanswered": LookupError,
    "InvalidNumber": RuntimeError,
    "TooMany": OverflowError,
    "NothingToUndo": IndexError,
    "Refused": ArithmeticError,
}
SILENT = ("MoveError", "InvalidValue", "InvalidStretch", "InvalidProgram", "InvalidOperation")
KEPT = {
    "ParseError": "line",
    "UnknownName": "name",
    "InvalidNumber": "value",
    "TooMany": "limit",
    "NothingToUndo": "many",
    "Refused": "reason",
}


def arguments():
    """Arguments of any kind, but for objects of the package, which need not be equal to copies."""
    return others()[:19] + tuples()[:11] + no_names() + [("bare", 0), ("content", "x", 2), ("register", "r")]


class Family(unittest.TestCase):
    def test_each_is_derived_directly_from_what_is_told(self):
        for name, base in BASES.items():
            with self.subTest(name):
                self.assertEqual(getattr(errors, name).__bases__, (base,))

    def test_each_is_defined_in_this_module(self):
        for name in BASES:
            self.assertEqual(getattr(errors, name).__module__, "orderlymoves.errors")

    def test_six_are_no_move_errors(self):
        for name, base in BASES.items():
            is_move_error = name == "MoveError" or base is errors.MoveError
            with self.subTest(name):
                self.assertEqual(issubclass(getattr(errors, name), errors.MoveError), is_move_error)
                self.assertEqual(issubclass(getattr(errors, name), ValueError), is_move_error)

    def test_none_is_derived_from_another_one(self):
        for name in BASES:
            for other in BASES:
                if name != other and other != "MoveError":
                    self.assertFalse(issubclass(getattr(errors, name), getattr(errors, other)), (name, other))

    def test_they_can_be_raised_and_caught_by_their_bases(self):
        with self.assertRaises(ValueError):
            raise errors.InvalidValue("why")
        with self.assertRaises(errors.MoveError):
            raise errors.ParseError(3)
        with self.assertRaises(KeyError):
            raise errors.UnknownName("up")
        with self.assertRaises(LookupError):
            raise errors.Unanswered("p", "a")
        with self.assertRaises(RuntimeError):
            raise errors.InvalidNumber(0)
        with self.assertRaises(OverflowError):
            raise errors.TooMany(4000)
        with self.assertRaises(IndexError):
            raise errors.NothingToUndo(1)
        with self.assertRaises(ArithmeticError):
            raise errors.Refused(("bare", 0))


class Silent(unittest.TestCase):
    def test_they_take_one_argument_of_any_kind_or_none(self):
        for name in SILENT:
            kind = getattr(errors, name)
            self.assertIsInstance(kind(), kind)
            for argument in others() + tuples() + no_names():
                self.assertIsInstance(kind(argument), kind)

    def test_they_take_no_two_arguments(self):
        for name in SILENT:
            for many in (2, 3):
                with self.subTest(name, many=many), self.assertRaises(TypeError):
                    getattr(errors, name)(*["why"] * many)


class Keeping(unittest.TestCase):
    def test_they_keep_what_they_take(self):
        for name, kept in KEPT.items():
            for argument in arguments():
                with self.subTest(name, argument=argument):
                    found = getattr(getattr(errors, name)(argument), kept)
                    self.assertEqual(found, argument)
                    self.assertIs(type(found), type(argument))

    def test_they_keep_objects_of_the_package(self):
        stretch = Stretch((("put", "a"),), ("a",))
        for name, kept in KEPT.items():
            self.assertEqual(getattr(getattr(errors, name)(stretch), kept), stretch)
            self.assertEqual(getattr(getattr(errors, name)([stretch]), kept), [stretch])

    def test_unanswered_keeps_both(self):
        for argument in arguments():
            error = errors.Unanswered(argument, "v")
            self.assertEqual((error.test, error.value), (argument, "v"))
            error = errors.Unanswered("t", argument)
            self.assertEqual((error.test, error.value), ("t", argument))

    def test_they_take_just_one_argument(self):
        for name in KEPT:
            for many in (0, 2, 3):
                with self.subTest(name, many=many), self.assertRaises(TypeError):
                    getattr(errors, name)(*["why"] * many)

    def test_unanswered_takes_just_two_arguments(self):
        for many in (0, 1, 3):
            with self.subTest(many=many), self.assertRaises(TypeError):
                errors.Unanswered(*["why"] * many)

    def test_they_copy_what_they_keep(self):
        for name, kept in KEPT.items():
            argument = [1, ([2], {"a": [3]})]
            error = getattr(errors, name)(argument)
            argument[1][1]["a"].append(4)
            argument[1][0].append(4)
            argument.append(4)
            self.assertEqual(getattr(error, kept), [1, ([2], {"a": [3]})])
        test, value = ["p"], {"a": ["b"]}
        error = errors.Unanswered(test, value)
        test.append("q")
        value["a"].append("c")
        self.assertEqual((error.test, error.value), (["p"], {"a": ["b"]}))


if __name__ == "__main__":
    unittest.main()
