"""The examples of the document that need names, values and stretches alone."""

import unittest

from orderlymoves.base.stretches import Stretch, is_code
from orderlymoves.base.values import applied, atoms, is_name, is_value, parts, unknown

SEND = Stretch((("write", "x", "a"), ("put", "a"), ("write", "x", "b")))
LATE = Stretch((("put", "a"), ("write", "x", "b")))
WAIT = Stretch((("get", "r"), ("read", "s", "x")), ("r", "s"))
EARLY = Stretch((("read", "s", "x"), ("get", "r")), ("r", "s"))
CHOICE = Stretch((
    ("read", "r", "x"),
    ("if", "p", "r", (("put", "r"),), (("set", "r", "f", ("r",)), ("write", "x", "r"))),
), ("r",))


class Examples(unittest.TestCase):
    def test_names_and_values(self):
        self.assertEqual(
            [is_name("put"), is_value("f(g(x.1), get.2)"), is_value("f(a,b)"), is_value("x.01"), unknown("get", 2),
             applied("f", "a", "g()")],
            [False, True, False, False, "get.2", "f(a, g())"])

    def test_parts_and_atoms(self):
        self.assertEqual(
            [parts("f(g(x.1), get.2)"), parts("x.1"), parts("f()"), atoms("f(g(x.1), f(x.1, a))"), atoms("f()")],
            [("f", ("g(x.1)", "get.2")), None, ("f", ()), ("a", "x.1"), ()])

    def test_the_stretches_of_the_introduction(self):
        self.assertEqual([LATE.size, LATE.keeps, EARLY.size, EARLY.keeps], [2, (), 2, ("r", "s")])
        self.assertEqual([LATE == SEND, WAIT == EARLY], [False, False])

    def test_a_stretch(self):
        self.assertEqual(
            [SEND.cells, SEND.registers, len(SEND), SEND[1], "x" in SEND, SEND.is_straight, str(WAIT)],
            [("x",), ("a", "b"), 3, ("put", "a"), True, True, "stretch of 2 statements, 1 cells, 2 kept"])

    def test_a_stretch_with_a_test(self):
        self.assertEqual(
            [CHOICE.size, len(CHOICE), CHOICE.functions, CHOICE.tests, (SEND + WAIT).keeps, (SEND + WAIT).size,
             WAIT.renamed(cells={"x": "y"})[1]],
            [5, 2, ("f",), ("p",), ("r", "s"), 5, ("read", "s", "y")])

    def test_code_and_kept_registers(self):
        self.assertEqual(
            [is_code((("put", "r"),)), is_code((("show", "r"),)), is_code([]), SEND.keeping(("a",)).keeps],
            [True, False, False, ("a",)])


if __name__ == "__main__":
    unittest.main()
