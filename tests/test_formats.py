"""Texts: what is written, what is read, and which line of a text is wrong."""

import random
import unittest

from orderlymoves.base.stretches import Stretch
from orderlymoves.errors import InvalidOperation, InvalidProgram, InvalidStretch, ParseError
from orderlymoves.play.programs import Program
from orderlymoves.text import formats
from orderlymoves.text.formats import read_code, read_program, read_stretch, write_code, write_program, write_stretch
from samples import (
    REGISTERS, all_but, check_errors, large, nested, no_values, others, some_code, some_program, tuples)
from test_programs import wrong_codes

ALL = (("read", "a", "x"), ("write", "x", "a"), ("set", "r", "f", ("a", "b")), ("set", "r", "f", ("a",)),
    ("set", "r", "f", ()),
       ("copy", "r", "a"), ("get", "r"), ("put", "r"))
ALL_TEXT = "read a x\nwrite x a\nset r f a b\nset r f a\nset r f\ncopy r a\nget r\nput r"
PUT = ("put", "a")
SHOW = ("show", "a")


def choice(yes=(), no=()):
    return ("if", "p", "r", yes, no)


def error_line(call, text):
    """The line that an error tells, `"none"` if there is no error, and the error if it is another one."""
    try:
        call(text)
    except ParseError as error:
        return error.line
    except (InvalidOperation, InvalidStretch, InvalidProgram) as error:
        return type(error)
    return "none"


class Interface(unittest.TestCase):
    def test_all_is_defined_in_this_module(self):
        for name in ("write_code", "write_stretch", "write_program", "read_code", "read_stretch", "read_program"):
            self.assertEqual(getattr(formats, name).__module__, "orderlymoves.text.formats")


class Written(unittest.TestCase):
    def test_statements(self):
        for statement, line in zip(ALL, ALL_TEXT.split("\n")):
            self.assertEqual(write_code((statement,)), line)
        self.assertEqual((write_code((SHOW,)), write_code(ALL), write_code(())), ("show a", ALL_TEXT, ""))

    def test_ifs(self):
        for code, text in (
            ((choice(),), "if p r\nelse\nend"), ((choice((PUT,)),), "if p r\nput a\nelse\nend"),
            ((choice((), (PUT,)),), "if p r\nelse\nput a\nend"),
            ((choice((PUT, SHOW), (PUT,)), PUT), "if p r\nput a\nshow a\nelse\nput a\nend\nput a"),
            ((choice((choice(),), (choice((), (PUT,)),)),),
             "if p r\nif p r\nelse\nend\nelse\nif p r\nelse\nput a\nend\nend"),
        ):
            self.assertEqual((write_code(code), read_code(text)), (text, code))

    def test_stretches(self):
        for code, keeps, text in (((), (), "keeps"), ((), ("a", "b"), "keeps a b"), ((PUT,), (), "keeps\nput a"),
                                  (ALL, ("r",), "keeps r\n" + ALL_TEXT)):
            self.assertEqual((write_stretch(Stretch(code, keeps)), read_stretch(text)), (text, Stretch(code, keeps)))
        self.assertEqual(
            write_stretch(Stretch((choice((PUT,)), ("set", "b", "f", ("a", "a"))), ("b",))),
            "keeps b\nif p r\nput a\nelse\nend\nset b f a a")

    def test_stretches_that_functions_return(self):
        self.assertEqual(write_stretch(large((PUT,) * 70)), "keeps" + "\nput a" * 70)

    def test_programs(self):
        for program, text in (
            (Program(((),)), "thread"), (Program(((), (), ())), "thread\nthread\nthread"),
            (Program(((PUT,), (SHOW, choice()))), "thread\nput a\nthread\nshow a\nif p r\nelse\nend"),
            (Program(((),), cells={"y": "f(a, x.1)", "x": "a"}), "thread\ncell x a\ncell y f(a, x.1)"),
            (Program(((),), answers={("q", "a"): False, ("p", "g(b, c)"): True, ("p", "a"): False}),
             "thread\nanswer p no a\nanswer p yes g(b, c)\nanswer q no a"),
            (Program(((PUT,),), cells={"x": "get.1"}, answers={("p", "f()"): True}),
             "thread\nput a\ncell x get.1\nanswer p yes f()"),
        ):
            self.assertEqual((write_program(program), read_program(text)), (text, program))

    def test_words_of_lines_that_are_names(self):
        code = (("read", "read", "write"), ("set", "set", "copy", ("read",)), ("if", "keeps", "thread", (), ()))
        program = Program((code,), cells={"cell": "answer", "thread": "keeps"},
            answers={("answer", "yes"): True, ("no", "no"): False})
        self.assertEqual(read_program(write_program(program)), program)
        self.assertEqual(read_code(write_code(code)), code)

    def test_there_and_back(self):
        rng = random.Random(91)
        for _ in range(200):
            code = some_code(rng, rng.randint(0, 6), 3)
            keeps = tuple(sorted(rng.sample(REGISTERS, rng.randint(0, 3))))
            try:
                stretch = Stretch(code, keeps)
            except InvalidStretch:
                continue
            self.assertEqual(read_stretch(write_stretch(stretch)), stretch)
            self.assertEqual(read_code(write_code(code)), code)
            program = some_program(rng, rng.randint(1, 3))
            text = write_program(program)
            self.assertEqual(read_program(text), program)
            self.assertEqual(write_program(read_program(text)), text)

    def test_what_cannot_be_written(self):
        check_errors(self, write_code, [((), wrong_codes(), InvalidOperation)])
        check_errors(self, write_stretch, [
            (Stretch(()), all_but(Stretch) + [(), (PUT,)],
             InvalidStretch)])
        check_errors(self, write_program, [
            (Program(((),)), all_but(Program) + [((),), ((PUT,),)],
             InvalidProgram)])


class Read(unittest.TestCase):
    def lines(self, call, *rows):
        for text, line in rows:
            with self.subTest(text=text):
                self.assertEqual(error_line(call, text), line)

    def test_the_empty_text(self):
        self.assertEqual(read_code(""), ())
        self.lines(read_stretch, ("", 0))
        self.lines(read_program, ("", 0))

    def test_what_is_no_text(self):
        for value in others() + tuples() + [(), [""], ["put a"], ("put a",)]:
            for call in (read_code, read_stretch, read_program):
                with self.subTest(value=value), self.assertRaises(ParseError) as caught:
                    call(value)
                self.assertIsNone(caught.exception.line)

    def test_blanks_and_empty_lines(self):
        self.lines(
            read_code, (" ", 0), ("\n", 0), ("put a\n", 1), ("\nput a", 0), ("put a\n\nput a", 1), ("put a ", 0),
            (" put a", 0),
            ("put  a", 0), ("put\ta", 0), ("put a\nput a\n", 2), ("set r f ", 0), ("set r f  a", 0),
            ("if p r\nelse\nend\n", 3),
            ("if p r\n\nelse\nend", 1), ("if p r\nelse\n\nend", 2), ("if p r \nelse\nend", 0),
            ("if p r\nelse \nend", 1),
            ("if p r\nelse\nend ", 2), ("if p r\n else\nend", 1), ("put a\r\nput a", 0), ("put a\n \nput a", 1))
        self.lines(read_stretch, ("keeps ", 0), (" keeps", 0), ("keeps\n", 1), ("keeps\n\nput a", 1), ("keeps  a", 0),
            ("keeps a ", 0),
                   ("keeps\nput a\n", 2), ("\nkeeps", 0), ("keeps a  b", 0))
        self.lines(read_program, ("thread ", 0), ("thread\n", 1), ("\nthread", 0), ("thread\ncell  x a", 1),
            ("thread\ncell x  a", 1),
                   ("thread\ncell x a ", 1), ("thread\ncell x f(a,  b)", 1), ("thread\ncell x f(a,b)", 1),
                   ("thread\nanswer p  yes a", 1),
                   ("thread\nanswer p yes a ", 1), ("thread\nanswer p yes  a", 1), ("thread\n\ncell x a", 1),
                   ("thread\ncell x a\n", 2))

    def test_forms_of_statements(self):
        self.lines(read_code, *[(text, 0) for text in (
            "read", "read a", "read a x y", "write x", "write x a b", "set", "set r", "set r f a b c", "copy a",
            "copy a b c", "get", "get a b",
            "put", "put a b", "show", "show a b", "if", "if p", "if p r a", "jump a", "Put a", "put A", "put a1",
            "put a.1", "put f()", "put get",
            "put if", "read a show", "read put x", "set r f else", "set r end", "set get f", "copy a end", "get put",
            "if get r", "if p end",
            "put abcdefghi", "write x abcdefghi", "keeps", "keeps a", "thread", "cell x a", "answer p yes a", "puta",
            "put,a", "put a,b", "put (a)")])
        self.lines(read_code, *[("put a\n" + text + "\nput a", 1) for text in ("jump a", "put", "thread", "keeps",
            "put A", "if p", "else", "end")])

    def test_the_first_wrong_line(self):
        self.lines(read_code, ("put a\njump\nput\nelse", 1), ("put\njump", 0), ("put a\nelse\njump", 1),
            ("if p\nelse\nend", 0),
                   ("if p r\nput\nput a", 1), ("if p r\nif p r\njump", 2))

    def test_else_and_end(self):
        self.lines(
            read_code, ("else", 0), ("end", 0), ("if p r\nend", 1), ("if p r\nput a\nend", 2),
            ("if p r\nelse\nelse\nend", 2),
            ("if p r\nelse\nput a\nelse", 3), ("if p r\nelse\nend\nend", 3), ("if p r\nelse\nend\nelse", 3),
            ("if p r\nelse\nend\nput a\nend", 4),
            ("if p r\nif p r\nelse\nend\nend", 4), ("if p r\nif p r\nelse\nelse", 3),
            ("if p r\nelse\nif p r\nelse\nend\nelse", 5),
            ("if p r\nif p r\nelse\nend\nelse\nend\nput a", "none"), ("if p r\nelse x\nend", 1),
            ("if p r\nelse\nend x", 2))

    def test_lines_that_are_lacking_at_the_end(self):
        self.lines(
            read_code, ("if p r", 1), ("if p r\nput a", 2), ("if p r\nelse", 2), ("if p r\nelse\nput a", 3),
            ("put a\nif p r\nelse", 3),
            ("if p r\nif p r\nelse\nend", 4), ("if p r\nelse\nif p r\nelse\nend", 5),
            ("if p r\nif p r\nelse\nend\nelse", 5))
        self.lines(read_stretch, ("keeps\nif p r", 2), ("keeps\nif p r\nelse", 3))
        self.lines(read_program, ("thread\nif p r", 2), ("thread\nif p r\nelse\nput a", 4),
            ("thread\nthread\nif p r", 3))

    def test_lines_behind_the_last_end(self):
        done = "if p r\nelse\nend"
        self.lines(read_code, (done + "\nput a", "none"), (done + "\n" + done, "none"), (done + "\njump", 3),
            (done + "\n", 3))
        self.lines(read_program, ("thread\n" + done + "\ncell x a", "none"), ("thread\n" + done + "\nend", 4),
            ("thread\n" + done + "\nthread", "none"))

    def test_stretches(self):
        self.lines(
            read_stretch, ("put a", 0), ("put a\nkeeps", 0), ("keeps\nkeeps", 1), ("keeps b a", 0), ("keeps a a", 0),
            ("keeps A", 0), ("keeps a1", 0),
            ("keeps a,b", 0), ("keeps get", 0), ("keeps abcdefghi", 0), ("keep", 0), ("keepsa", 0), ("thread", 0),
            ("keeps\nthread", 1),
            ("keeps\ncell x a", 1), ("keeps a b c d", "none"), ("keeps\nshow a", 1),
            ("keeps\nif p r\nshow a\nelse\nend", 2),
            ("keeps\nput a\nif p r\nelse\nshow a\nend", 4), ("keeps\njump\nshow a", 1))

    def test_threads(self):
        self.lines(
            read_program, ("put a", 0), ("cell x a", 0), ("answer p yes a", 0), ("keeps", 0), ("thread a", 0),
            ("threads", 0), ("thread\nkeeps", 1),
            ("thread\nif p r\nthread", 2), ("thread\nif p r\nelse\nthread", 3), ("thread\nif p r\ncell x a", 2),
            ("thread\nif p r\nelse\nanswer p yes a", 3),
            ("put a\nthread", 0), ("thread\nshow a\nif p r\nshow a\nelse\nend", "none"))

    def test_cells(self):
        self.lines(
            read_program, ("thread\ncell", 1), ("thread\ncell x", 1), ("thread\ncell X a", 1),
            ("thread\ncell get a", 1), ("thread\ncell x.1 a", 1),
            ("thread\ncell abcdefghi a", 1), ("thread\ncell x a\ncell x a", 2), ("thread\ncell x a\ncell x b", 2),
            ("thread\ncell y a\ncell x a", 2),
            ("thread\ncell x a\ncell y a\ncell xx a", 3), ("thread\ncell x a\ncell xx a\ncell y a", "none"),
            ("thread\ncell x a\nthread", 2),
            ("thread\ncell x a\nput a", 2), ("thread\ncell x a\nif p r", 2), ("thread\ncell x a\nend", 2),
            ("thread\ncell x a b", 1))
        self.lines(read_program, *[("thread\ncell x " + value, 1) for value in no_values() if "\n" not in value])

    def test_answers(self):
        self.lines(
            read_program, ("thread\nanswer", 1), ("thread\nanswer p", 1), ("thread\nanswer p yes", 1),
            ("thread\nanswer p a", 1), ("thread\nanswer p Yes a", 1),
            ("thread\nanswer p true a", 1), ("thread\nanswer get yes a", 1), ("thread\nanswer P yes a", 1),
            ("thread\nanswer p a yes", 1),
            ("thread\nanswer p yes a\nanswer p yes a", 2), ("thread\nanswer p yes a\nanswer p no a", 2),
            ("thread\nanswer p yes b\nanswer p yes a", 2),
            ("thread\nanswer q yes a\nanswer p yes b", 2), ("thread\nanswer p yes b\nanswer q yes a", "none"),
            ("thread\nanswer p yes a\ncell x a", 2),
            ("thread\nanswer p yes a\nthread", 2), ("thread\nanswer p yes a\nput a", 2),
            ("thread\nanswer p no f(a)\nanswer p no f(a, b)", "none"),
            ("thread\nanswer p no f(a, b)\nanswer p no f(a)", 2), ("thread\ncell x a\nanswer p no x.1\ncell y a", 3),
            ("thread\nanswer p no x.2\nanswer p no x.10", 2), ("thread\nanswer p no x.10\nanswer p no x.2", "none"))
        self.lines(read_program, *[("thread\nanswer p no " + value, 1) for value in no_values() if "\n" not in value])

    def test_errors_behind_those_of_the_lines(self):
        put, ifs = "put a", "if p r\nelse\nend"
        deep = "if p r\n" * 4 + "else\nend\n" * 3 + "else\nend"
        sets = "\n".join(["set a f a"] * 7)
        over = "\n".join([put] * 61)
        self.lines(read_code, (over, InvalidOperation), ("\n".join([put] * 60), "none"), (deep, InvalidOperation),
            (sets, InvalidOperation),
                   ("\n".join([ifs] * 7), InvalidOperation), (over + "\njump", 61), (deep + "\nelse", 12),
                   ("if p r\n" * 300, 300))
        self.lines(read_stretch, ("keeps\n" + "\n".join([put] * 7), InvalidStretch),
            ("keeps\n" + "\n".join([put] * 6), "none"),
                   ("keeps\n" + deep, InvalidStretch), ("keeps\n" + sets, InvalidStretch),
                   ("keeps a b c d e", InvalidStretch),
                   ("keeps\n" + "\n".join(["read a x"] * 25), InvalidStretch),
                   ("keeps\n" + "\n".join([ifs] * 4), InvalidStretch),
                   ("keeps a b c d e\njump", 1), ("keeps\n" + "\n".join("read a " + cell for cell in "vwxyz"),
                    InvalidStretch))
        self.lines(read_program, ("thread\n" + over, InvalidProgram),
            ("thread\nthread\nthread\nthread", InvalidProgram), ("thread\n" + deep, InvalidProgram),
                   ("thread\n" + sets, InvalidProgram), ("thread\nthread\nthread\nthread\njump", 4),
                   ("thread\n" + over + "\ncell x", 62),
                   ("thread\nthread\n" + "\n".join([ifs] * 7), InvalidProgram))
        nested = "if p r\n" * 200 + "else\nend\n" * 199 + "else\nend"
        self.lines(read_code, (nested, InvalidOperation), (nested + "\nend", 600))

    def test_many_texts_are_read_just_if_they_are_written(self):
        rng = random.Random(92)
        good = bad = 0
        for _ in range(1500):
            lines = write_program(some_program(rng, rng.randint(1, 2))).split("\n")
            at = rng.randrange(len(lines))
            change = rng.randrange(4)
            if change == 0:
                del lines[at]
            elif change == 1:
                lines.insert(at, rng.choice(lines))
            elif change == 2:
                lines[at] = lines[at][:-1]
            else:
                other = rng.randrange(len(lines))
                lines[at], lines[other] = lines[other], lines[at]
            text = "\n".join(lines)
            found = error_line(read_program, text)
            if found == "none":
                good += 1
                self.assertEqual(write_program(read_program(text)), text)
            elif found is not InvalidProgram:
                bad += 1
                self.assertTrue(0 <= found <= len(lines))
                # What stands ahead of the line can stand there.
                ahead = error_line(read_program, "\n".join(lines[:found]))
                self.assertIn(ahead, ("none", found, InvalidProgram))
        self.assertTrue(good > 300 and bad > 300, (good, bad))


if __name__ == "__main__":
    unittest.main()
