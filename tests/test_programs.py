"""Programs and runs: forms, bounds, steps, letters, properties and operators."""

import random
import unittest

from orderlymoves.errors import InvalidNumber, InvalidOperation, InvalidProgram
from orderlymoves.play import programs
from orderlymoves.play.programs import Program, Run
from orders import PlainRun, all_orders
from samples import (
    all_but, all_but_numbers, check_errors, nested, no_answers, no_names, no_values, others, some_program, tuples)

SHOW = ("show", "a")
PUT = ("put", "a")
GET = ("get", "b")
SET = ("set", "a", "f", ("a",))
CONSTANT = ("set", "a", "f", ())
SEND = (("write", "x", "a"), ("put", "a"), ("write", "x", "b"))
LOOK = (("get", "m"), ("read", "n", "x"), ("show", "n"))
PAIR = Program((SEND, LOOK), cells={"x": "old"})


def choice(yes=(), no=(), test="p", name="a"):
    return ("if", test, name, yes, no)


def nest(deep, inner=()):
    for _ in range(deep):
        inner = (choice((), inner),)
    return inner


def wrong_codes():
    """What is no code of a thread."""
    found = all_but() + [
        [SHOW], (list(SHOW),), ("show", "a"), (("show",),), (("show", "a", "b"),), (("show", "a b"),), (("Show", "a"),),
        (("show", ("a",)),), (("show", 1),), (("show", None),), (("put", "if"),), (("read", "a"),), (choice([SHOW]),),
        (("if", "p", "a", ()),), (SHOW,) * 61, (choice((SHOW,) * 60),), (choice((SHOW,) * 30, (SHOW,) * 30),), nest(4),
        (choice(),) * 7, (SET,) * 7, (choice((choice(),) * 6),), (choice((), (choice(),) * 6),),
        (SET,) * 6 + (choice((SET,)),),
        (choice((SET,) * 4, (SET,)),) + (SET,) * 3, (choice((choice(),) * 3),) * 2, (("show", "abcdefghi"),),
    ]
    return [value for value in found if value != ()]


class Interface(unittest.TestCase):
    def test_constants(self):
        self.assertEqual((programs.MAX_THREADS, programs.MAX_CODE), (3, 60))

    def test_all_is_defined_in_the_classes_themselves(self):
        self.assertEqual((Program.__module__, Run.__module__), ("orderlymoves.play.programs",) * 2)
        for name in ("threads", "cells", "answers", "names"):
            self.assertIsInstance(vars(Program)[name], property)
        for name in ("__init__", "__call__", "with_code", "__len__", "__eq__", "__str__"):
            self.assertIn(name, vars(Program))
        for name in ("program", "order", "shown", "cells", "lines", "next_steps", "ready", "is_end", "clashing"):
            self.assertIsInstance(vars(Run)[name], property)
        for name in ("held", "after", "__len__", "__eq__", "__str__"):
            self.assertIn(name, vars(Run))

    def test_they_never_change(self):
        run = PAIR((0,))
        for found, names in ((PAIR, ("threads", "cells", "answers", "names")), (run, (
                "program", "order", "shown", "cells", "lines", "next_steps", "ready", "is_end", "clashing"))):
            for name in names:
                with self.subTest(name), self.assertRaises(AttributeError):
                    setattr(found, name, None)

    def test_cells_and_answers_are_passed_by_keyword(self):
        with self.assertRaises(TypeError):
            Program(((),), {})

    def test_they_are_not_iterated_over(self):
        for value in (PAIR, PAIR(())):
            with self.assertRaises(TypeError):
                iter(value)
            with self.assertRaises(TypeError):
                list(value)


class Bounds(unittest.TestCase):
    def good(self, *threads):
        self.assertEqual(Program(threads).threads, threads)

    def bad(self, *threads):
        with self.assertRaises(InvalidProgram):
            Program(threads)

    def test_one_to_three_threads(self):
        for many in range(6):
            (self.good if many in (1, 2, 3) else self.bad)(*[()] * many)

    def test_sizes(self):
        for good, bad in (
            ((SHOW,) * 60, (SHOW,) * 61), ((PUT,) * 60, (PUT,) * 61),
            ((choice((SHOW,) * 59),), (choice((SHOW,) * 60),)),
            ((choice((SHOW,) * 29, (SHOW,) * 30),), (choice((SHOW,) * 30, (SHOW,) * 30),)),
            ((choice((choice((SHOW,) * 50),)),) + (SHOW,) * 8, (choice((choice((SHOW,) * 50),)),) + (SHOW,) * 9),
        ):
            self.good(good)
            self.good(good, good, good)
            self.bad(bad)
            self.bad((), bad)
            self.bad((), good, bad)

    def test_ifs_nested_three_and_four_deep(self):
        for deep in range(6):
            (self.good if deep <= 3 else self.bad)(nest(deep, (SHOW,)))
            (self.good if deep <= 3 else self.bad)((), (PUT,) + nest(deep))

    def test_ifs_on_a_path(self):
        self.good((choice(),) * 6)
        self.bad((choice(),) * 7)
        self.good((choice((choice(),) * 5, (choice(),) * 5),))
        self.bad((choice((choice(),) * 6, ()),))
        self.bad((choice((), (choice(),) * 6),))
        self.good((choice((choice(),), (choice(),) * 2),) * 2)
        self.bad((choice((choice(),), (choice(),) * 2),) * 2 + (choice(),))

    def test_sets_on_a_path(self):
        self.good((SET,) * 6)
        self.bad((SET,) * 7)
        self.good((CONSTANT,) * 20 + (SET,) * 6)
        self.bad((CONSTANT,) * 20 + (SET,) * 7)
        self.good((choice((SET,) * 2, (SET,) * 3),) * 2)
        self.bad((choice((SET,) * 2, (SET,) * 3),) * 2 + (SET,))
        self.good((SET,) * 6, (SET,) * 6, (SET,) * 6)
        self.good((("set", "a", "f", ("a", "b")),) * 6)
        self.bad((("set", "a", "f", ("a", "b")),) * 7)

    def test_letters_and_cells_have_no_bound(self):
        self.good((PUT, GET) * 30)
        self.good(tuple(("write", letter, "a") for letter in "abcdefghijklmnopqrstuvwxyz"))


class Programs(unittest.TestCase):
    def test_what_is_told(self):
        cells, answers = {"y": "f(x.1)", "x": "a"}, {("q", "a"): False, ("p", "b"): True, ("p", "a"): True}
        program = Program((SEND, LOOK), cells=cells, answers=answers)
        self.assertEqual(list(program.cells.items()), [("x", "a"), ("y", "f(x.1)")])
        self.assertEqual(list(program.answers), [("p", "a"), ("p", "b"), ("q", "a")])
        self.assertEqual((program.names, program.threads), (("x", "y"), (SEND, LOOK)))
        cells["x"], answers["p", "a"] = "b", False
        cells["z"] = answers["p", "z"] = None
        self.assertEqual((program.cells["x"], program.answers["p", "a"], len(program.cells)), ("a", True, 2))
        program.cells["x"] = program.answers["p", "a"] = None
        program.cells.clear()
        self.assertEqual((program.cells["x"], program.answers["p", "a"]), ("a", True))

    def test_nothing_told(self):
        for program in (Program((SEND,)), Program((SEND,), cells=None, answers=None),
                Program((SEND,), cells={}, answers={})):
            self.assertEqual((program.cells, program.answers, program.names), ({}, {}, ("x",)))
            self.assertEqual(program, Program((SEND,)))

    def test_names(self):
        code = (choice((("read", "a", "z"),), (choice((("write", "y", "a"),)),)),)
        self.assertEqual(Program((code, LOOK), cells={"w": "a", "y": "a"}).names, ("w", "x", "y", "z"))
        self.assertEqual(Program(((),)).names, ())

    def test_equality(self):
        self.assertEqual(PAIR, Program((SEND, LOOK), cells={"x": "old"}, answers={}))
        for other in (Program((LOOK, SEND), cells={"x": "old"}), Program((SEND, LOOK)),
            Program((SEND, LOOK), cells={"x": "a"}),
                      Program((SEND, LOOK), cells={"x": "old", "y": "y.1"}),
                      Program((SEND, LOOK, ()), cells={"x": "old"}),
                      Program((SEND, LOOK), cells={"x": "old"}, answers={("p", "a"): False})):
            self.assertFalse(PAIR == other)
            self.assertTrue(PAIR != other)
        told = {("p", "a"): True, ("p", "b"): False}
        self.assertEqual(Program(((),), answers=told), Program(((),), answers=dict(sorted(told.items(), reverse=True))))
        # A cell that is told is told, also with the content that it would have anyway.
        self.assertNotEqual(Program((SEND,), cells={"x": "x.1"}), Program((SEND,)))
        for value in all_but() + [PAIR.threads, PAIR(())]:
            self.assertIs(PAIR == value, False)
            self.assertIs(PAIR != value, True)
            self.assertIs(PAIR(()) == value, value == PAIR(()) and not isinstance(value, tuple))

    def test_length_and_text(self):
        self.assertEqual((len(PAIR), str(PAIR)), (2, "program of 2 threads, 6 statements, 1 cells"))
        program = Program((SEND, (choice((SHOW,), (PUT, SHOW)),), ()), cells={"y": "a"})
        self.assertEqual((len(program), str(program)), (3, "program of 3 threads, 7 statements, 2 cells"))
        self.assertEqual(str(Program(((),))), "program of 1 threads, 0 statements, 0 cells")

    def test_with_code(self):
        made = Program((SEND, LOOK), cells={"x": "a"}, answers={("p", "a"): True})
        other = made.with_code(1, ())
        self.assertEqual(other, Program((SEND, ()), cells={"x": "a"}, answers={("p", "a"): True}))
        self.assertEqual(made.with_code(0, LOOK).threads, (LOOK, LOOK))
        self.assertEqual(made.threads, (SEND, LOOK))
        self.assertEqual(Program(((), (), ())).with_code(2, LOOK).threads, ((), (), LOOK))
        self.assertEqual(made.with_code(0, (SHOW,) * 60).threads[0], (SHOW,) * 60)


class Runs(unittest.TestCase):
    def test_before_the_first_step(self):
        run = PAIR(())
        self.assertEqual((run.program, run.order, run.shown, run.lines), (PAIR, (), ((), ()), ((), ())))
        self.assertEqual((run.cells, run.next_steps), ({"x": "old"}, (("write", "x"), ("get",))))
        self.assertEqual((run.ready, run.is_end, run.clashing, len(run)), ((0,), False, (), 0))
        self.assertEqual(str(run), "run of 0 steps, 1 ready")

    def test_to_the_end(self):
        run = PAIR((0, 0, 0, 1, 1, 1))
        self.assertEqual((run.order, run.shown, run.lines), ((0, 0, 0, 1, 1, 1), ((), ("b",)), ((), ())))
        self.assertEqual((run.next_steps, run.ready, run.is_end, run.clashing), ((None, None), (), True, ()))
        self.assertEqual((len(run), str(run)), (6, "run of 6 steps, 0 ready"))

    def test_next_steps_of_each_kind(self):
        for statement, step in ((("read", "a", "x"), ("read", "x")), (("write", "x", "a"), ("write", "x")),
            (GET, ("get",)),
                                (PUT, ("put",)), (SHOW, ("show",))):
            for ahead in ((), (CONSTANT,), (choice((), (("copy", "a", "b"),)),)):
                self.assertEqual(Program((ahead + (statement,), ()))(()).next_steps, (step, None))

    def test_contents(self):
        program = Program(((("read", "a", "x"), ("write", "y", "a"), ("write", "x", "b")),), cells={"y": "b", "w": "c"})
        self.assertEqual(list(program(()).cells.items()), [("w", "c"), ("x", "x.1"), ("y", "b")])
        self.assertEqual(program((0, 0)).cells, {"w": "c", "x": "x.1", "y": "x.1"})
        self.assertEqual(program((0, 0, 0)).cells, {"w": "c", "x": "b", "y": "x.1"})
        program(()).cells["x"] = None
        self.assertEqual(program(()).cells["x"], "x.1")

    def test_registers(self):
        code = (("read", "a", "x"), ("set", "b", "f", ("a", "c")), ("set", "c", "g", ()), ("copy", "d", "b"),
            ("copy", "a", "d"))
        run = Program((code, (PUT,)))((0,))
        held = {"a": "f(x.1, c)", "b": "f(x.1, c)", "c": "g()", "d": "f(x.1, c)", "e": "e", "x": "x"}
        self.assertEqual({name: run.held(0, name) for name in held}, held)
        self.assertEqual(run.held(1, "a"), "a")
        self.assertEqual(Program((code,))(()).held(0, "b"), "b")

    def test_registers_belong_to_threads(self):
        program = Program(((("read", "a", "x"), SHOW), (SHOW,)))
        self.assertEqual(program((0, 0, 1)).shown, (("x.1",), ("a",)))

    def test_what_is_done_before_the_first_step(self):
        program = Program(((CONSTANT, ("copy", "b", "a"), ("show", "b")),))
        self.assertEqual((program(()).held(0, "a"), program(()).held(0, "b")), ("f()", "f()"))
        self.assertEqual(program((0,)).shown, (("f()",),))
        quiet = Program(((CONSTANT, ("copy", "b", "a")),))
        self.assertEqual((quiet(()).is_end, quiet(()).held(0, "b")), (True, "f()"))

    def test_what_is_done_together_with_a_step(self):
        program = Program(((SHOW, CONSTANT, choice((), (("copy", "b", "a"),)), SHOW, ("copy", "c", "b")),))
        self.assertEqual([program((0,) * many).held(0, "b") for many in range(3)], ["b", "f()", "f()"])
        self.assertEqual([program((0,) * many).held(0, "c") for many in range(3)], ["c", "c", "f()"])
        self.assertEqual([program((0,) * many).next_steps for many in range(3)], [(("show",),), (("show",),), (None,)])

    def test_a_step_that_waits_does_nothing_behind_it(self):
        program = Program(((GET, CONSTANT),))
        self.assertEqual((program(()).held(0, "a"), program(()).ready, program(()).is_end), ("a", (), True))

    def test_answers(self):
        code = (("read", "a", "x"), choice((("show", "b"),), (("show", "c"),)), choice((), (SHOW,), "q"))
        for answers, shown in (
            (None, ("c", "d")), ({("p", "d"): True}, ("b", "d")), ({("p", "d"): False}, ("c", "d")),
            ({("p", "a"): True}, ("c", "d")),
            ({("q", "d"): True}, ("c",)), ({("p", "d"): True, ("q", "d"): True}, ("b",)),
            ({("d", "p"): True}, ("c", "d")),
        ):
            self.assertEqual(Program((code,), cells={"x": "d"}, answers=answers)((0,) * (1 + len(shown))).shown,
                (shown,))

    def test_ifs_in_one_another(self):
        inner = choice((("show", "b"),), (("show", "c"),), "q")
        code = (choice((inner, ("show", "d")), (inner,)), ("show", "e"))
        for yes in (True, False):
            for also in (True, False):
                program = Program((code,), answers={("p", "a"): yes, ("q", "a"): also})
                shown = ("b" if also else "c",) + (("d",) if yes else ()) + ("e",)
                self.assertEqual(program((0,) * len(shown)).shown, (shown,))
                self.assertIs(program((0,) * len(shown)).is_end, True)

    def test_empty_ifs(self):
        program = Program(((choice(), choice(), SHOW, choice()),))
        self.assertEqual((program(()).next_steps, program((0,)).is_end), ((("show",),), True))


class Letters(unittest.TestCase):
    def test_one_thread_sends_to_itself(self):
        program = Program(((PUT, ("put", "c"), GET, ("show", "b"), GET, ("show", "b")),))
        self.assertEqual(program((0, 0)).lines, (("a", "c"),))
        self.assertEqual(program((0, 0, 0)).lines, (("c",),))
        self.assertEqual(program((0,) * 6).shown, (("a", "c"),))
        self.assertEqual(Program(((GET, PUT),))(()).is_end, True)

    def test_two_threads_send_to_each_other(self):
        program = Program(((PUT, GET, ("show", "b")), (("put", "c"), GET, ("show", "b"))))
        self.assertEqual(program((0,)).lines, ((), ("a",)))
        self.assertEqual(program((1,)).lines, (("c",), ()))
        self.assertEqual(program((0, 1, 0, 0, 1, 1)).shown, (("c",), ("a",)))

    def test_three_threads_send_in_a_circle(self):
        program = Program(tuple((("put", name), GET, ("show", "b")) for name in "acd"))
        self.assertEqual(program((0,)).lines, ((), ("a",), ()))
        self.assertEqual(program((1,)).lines, ((), (), ("c",)))
        self.assertEqual(program((2,)).lines, (("d",), (), ()))
        self.assertEqual(program((0, 1, 2) * 3).shown, (("d",), ("a",), ("c",)))

    def test_letters_come_in_the_order_in_which_they_are_sent(self):
        program = Program((tuple(("put", name) for name in "abcd"), (GET, ("show", "b")) * 4))
        self.assertEqual(program((0, 0, 0, 0)).lines, ((), ("a", "b", "c", "d")))
        self.assertEqual(program((0, 0, 1, 1, 0, 1, 1, 0)).lines, ((), ("c", "d")))
        self.assertEqual(program((0,) * 4 + (1,) * 8).shown, ((), ("a", "b", "c", "d")))

    def test_a_get_is_only_possible_if_a_letter_is_there(self):
        program = Program(((PUT,), (GET, GET)))
        self.assertEqual((program(()).ready, program((0,)).ready, program((0, 1)).ready), ((0,), (1,), ()))
        self.assertIs(program((0, 1)).is_end, True)
        self.assertEqual(program((0, 1)).next_steps, (None, ("get",)))
        for order in ((1,), (0, 1, 1), (0, 0), (1, 0)):
            with self.assertRaises(InvalidOperation):
                program(order)

    def test_what_was_sent_does_not_change(self):
        program = Program(((PUT, CONSTANT, SHOW), (GET, ("show", "b"))))
        self.assertEqual(program((0, 0, 1, 1)).shown, (("f()",), ("a",)))


class Clashes(unittest.TestCase):
    def clashing(self, *steps):
        return Program(tuple((step,) for step in steps))(()).clashing

    def test_two_accesses_to_one_cell(self):
        read, write, other = ("read", "a", "x"), ("write", "x", "a"), ("write", "y", "a")
        for one, two, clash in ((read, read, False), (read, write, True), (write, read, True), (write, write, True),
                                (write, other, False), (read, other, False), (other, other, True), (write, PUT, False),
                                (GET, GET, False), (PUT, PUT, False), (SHOW, write, False), (GET, write, False)):
            self.assertEqual(self.clashing(one, two), ((0, 1),) if clash else ())

    def test_three_threads(self):
        read, write, other = ("read", "a", "x"), ("write", "x", "a"), ("write", "y", "a")
        for steps, found in (
            ((write, write, write), ((0, 1), (0, 2), (1, 2))), ((read, write, read), ((0, 1), (1, 2))),
            ((read, read, write), ((0, 2), (1, 2))), ((write, other, read), ((0, 2),)), ((read, read, read), ()),
            ((other, write, read), ((1, 2),)), ((write, read, read), ((0, 1), (0, 2))),
        ):
            self.assertEqual(self.clashing(*steps), found)

    def test_only_next_steps_clash(self):
        program = Program(((SHOW, ("write", "x", "a")), (("write", "x", "a"),)))
        self.assertEqual([program(order).clashing for order in ((), (0,), (1,), (0, 1), (0, 0))],
            [(), ((0, 1),), (), (), ()])
        self.assertEqual(Program(((("write", "x", "a"),),))(()).clashing, ())


class Following(unittest.TestCase):
    def test_after(self):
        run = PAIR(())
        for order in ((0,), (0, 0), (0, 0, 1), (0, 0, 1, 0)):
            run = run.after(order[-1])
            self.assertEqual((run, run.order), (PAIR(order), order))
            self.assertEqual((run.shown, run.cells, run.lines, run.ready), (
                PAIR(order).shown, PAIR(order).cells, PAIR(order).lines, PAIR(order).ready))

    def test_the_run_before_stays(self):
        run = PAIR((0,))
        run.after(0).after(1).after(1)
        self.assertEqual((run.order, run.lines, run.cells, run.ready), ((0,), ((), ()), {"x": "a"}, (0,)))
        self.assertEqual((run.held(1, "m"), run.shown), ("m", ((), ())))

    def test_equality(self):
        self.assertEqual(PAIR((0, 0)), Program((SEND, LOOK), cells={"x": "old"})((0, 0)))
        self.assertNotEqual(PAIR((0, 0)), PAIR((0,)))
        self.assertNotEqual(PAIR((0, 0)), Program((SEND, LOOK))((0, 0)))
        # The same state by another order is another run.
        both = Program(((SHOW,), (SHOW,)))
        self.assertNotEqual(both((0, 1)), both((1, 0)))
        self.assertEqual(both((0, 1)).shown, both((1, 0)).shown)
        for value in all_but():
            self.assertIs(PAIR((0,)) == value, False)
            self.assertIs(PAIR((0,)) != value, True)

    def test_long_orders(self):
        program = Program(((SHOW,) * 60,) * 3)
        order = (0, 1, 2) * 60
        self.assertEqual((program(order).is_end, len(program(order))), (True, 180))
        for wrong in (order + (0,), order + (0, 1, 2) * 6 + (0, 1), order + (0,) * 20, order + (0,) * 21,
                (0,) * 10 ** 4):
            with self.assertRaises(InvalidOperation):
                program(wrong)

    def test_long_values(self):
        code = (("set", "a", "f", ("a", "a")),) * 6
        program = Program((code + (PUT,), (("get", "a"),) + code + (SHOW,)))
        self.assertEqual(program((0, 1, 1)).shown[1][0].count("a"), 2 ** 12)


class Plainly(unittest.TestCase):
    def test_all_runs_of_small_programs(self):
        rng = random.Random(21)
        met = 0
        for many in (1, 2, 2, 3):
            for _ in range(60):
                program = some_program(rng, many, 5 - many)
                for order, plain in all_orders(program):
                    self.compare(program, order, plain)
                    met += 1
                    if met % 400 == 0:
                        break
        self.assertGreater(met, 5000)

    def compare(self, program, order, plain):
        run = program(order)
        self.assertEqual((run.shown, run.cells, run.ready), (plain.shown(), plain.contents, plain.ready()))
        self.assertEqual((run.next_steps, run.clashing), (plain.next_steps(), plain.clashing()))
        self.assertEqual(run.lines, tuple(map(tuple, plain.lines)))
        for thread, held in enumerate(plain.registers):
            for name in ("a", "b", "c", "r"):
                self.assertEqual(run.held(thread, name), held.get(name, name))

    def test_orders_that_are_not_possible(self):
        rng = random.Random(22)
        refused = 0
        for _ in range(600):
            program = some_program(rng, rng.randint(1, 3))
            order = tuple(rng.randrange(len(program)) for _ in range(rng.randint(0, 6)))
            if PlainRun(program, order).is_possible:
                self.assertEqual(program(order).order, order)
            else:
                refused += 1
                with self.assertRaises(InvalidOperation):
                    program(order)
        self.assertTrue(100 < refused < 500)


class Errors(unittest.TestCase):
    NUMBERS = all_but_numbers(0, 1) + [2, -1]

    def test_threads(self):
        wrong = all_but() + [(), [()], [SEND], SEND, SHOW, ((),) * 4, {0: ()}]
        for value in wrong + [(code,) for code in wrong_codes()] + [((), code) for code in wrong_codes()]:
            with self.subTest(value=value), self.assertRaises(InvalidProgram):
                Program(value)
            with self.assertRaises(InvalidProgram):
                Program(value, cells={"x": "a"}, answers={})

    def test_cells(self):
        wrong = [value for value in all_but() if value not in (None, {}, {"a": "b"})]
        wrong += [{name: "a"} for name in no_names()] + [{"x": value} for value in no_values() + others() + tuples()]
        wrong += [{"x": "a", "y": "a b"}, {"x": "a", 1: "a"}, {("x",): "a"}, {None: "a"}, {True: "a"}, {"x": ("a",)},
            (), [("x", "a")]]
        for value in wrong:
            with self.subTest(value=value), self.assertRaises(InvalidProgram):
                Program((SEND,), cells=value)
            with self.assertRaises(InvalidProgram):
                Program((SEND,), cells=value, answers=1)
        self.assertEqual(Program((SEND,), cells={"a": "b"}).cells, {"a": "b"})

    def test_answers(self):
        for value in no_answers():
            if value is None:
                continue
            with self.subTest(value=value), self.assertRaises(InvalidProgram):
                Program((SEND,), answers=value)

    def test_with_code(self):
        check_errors(self, PAIR.with_code, [(0, self.NUMBERS, InvalidNumber), ((), wrong_codes(), InvalidProgram)])
        for number in (2, -1, 10 ** 12, None, "0", (), [0]):
            with self.assertRaises(InvalidNumber) as caught:
                PAIR.with_code(number, ())
            self.assertEqual(caught.exception.value, number)
        self.assertEqual(PAIR.threads, (SEND, LOOK))

    def test_orders(self):
        wrong = all_but() + [
            [0], [], 0, "0", ("0",), (2,), (-1,), (True,), (False,), (0, None), (0, (0,)), ((0,),), (0, 10 ** 30),
            {0: 0},
            nested(0, 11), (0, Program(((),))),
        ]
        for value in wrong:
            with self.subTest(value=value), self.assertRaises(InvalidOperation):
                PAIR(value)

    def test_held_and_after(self):
        run = PAIR((0,))
        names = all_but()
        check_errors(self, run.held, [(0, self.NUMBERS, InvalidNumber), ("a", names, InvalidOperation)])
        check_errors(self, run.after, [(0, self.NUMBERS, InvalidNumber)])
        with self.assertRaises(InvalidOperation):
            run.after(1)
        with self.assertRaises(InvalidOperation):
            Program(((),))(()).after(0)
        with self.assertRaises(InvalidNumber) as caught:
            run.after(2)
        self.assertEqual(caught.exception.value, 2)
        self.assertEqual(run, PAIR((0,)))


if __name__ == "__main__":
    unittest.main()
