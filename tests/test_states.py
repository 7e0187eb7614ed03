"""All that a program can do: states, clashes, ends and outcomes."""

import itertools
import random
import unittest

from orderlymoves.errors import InvalidOperation, InvalidProgram, TooMany
from orderlymoves.play import states as module
from orderlymoves.play.programs import Program
from orderlymoves.play.states import clash, end_order, ends, is_clash, is_orderly, outcome, states
from orders import PlainRun, all_orders
from samples import all_but, nested, some_program

SHOW = ("show", "a")
PUT = ("put", "a")
GET = ("get", "b")
READ = ("read", "a", "x")
WRITE = ("write", "x", "a")
SEND = (("write", "x", "a"), ("put", "a"), ("write", "x", "b"))
LOOK = (("get", "m"), ("read", "n", "x"), ("show", "n"))
PAIR = Program((SEND, LOOK), cells={"x": "old"})
CALM = Program((SEND + (("put", "b"),), (("get", "m"),) + LOOK))
# Programs with a number of shows in each thread come to one more state for each show, in all threads together.
FULL = Program(((SHOW,) * 19, (SHOW,) * 19, (SHOW,) * 9))
OVER = Program(((SHOW,) * 15,) * 3)


def choice(yes=(), no=()):
    return ("if", "p", "a", yes, no)


class Interface(unittest.TestCase):
    def test_all_is_there(self):
        self.assertEqual(module.MAX_STATES, 4000)
        for call in (states, clash, is_clash, is_orderly, ends, end_order, outcome):
            self.assertEqual(call.__module__, "orderlymoves.play.states")


class States(unittest.TestCase):
    def test_of_a_single_thread(self):
        for code, many in (((), 1), ((SHOW,), 2), ((SHOW,) * 60, 61), ((PUT, GET), 3), ((GET,), 1),
            ((PUT, GET, GET), 3),
                           ((("copy", "b", "a"),), 1), ((READ, WRITE), 3), ((choice((SHOW,), (SHOW, SHOW)),), 3)):
            self.assertEqual(states(Program((code,))), many)

    def test_of_threads_that_do_not_touch(self):
        for one, two, three in itertools.product(range(4), repeat=3):
            program = Program(((SHOW,) * one, (SHOW,) * two, (SHOW,) * three))
            self.assertEqual(states(program), (one + 1) * (two + 1) * (three + 1))

    def test_equal_statements_at_different_places(self):
        # Reading twice what is there anyway changes nothing but the place.
        self.assertEqual(states(Program(((READ, READ, READ),))), 4)
        self.assertEqual(states(Program(((READ, READ), (("read", "a", "y"),)))), 6)
        self.assertEqual(states(Program(((choice((READ,), (READ,)), READ),), answers={("p", "a"): True})), 3)
        # Which code of an if a thread is in is a part of its place.
        same = (("read", "a", "x"), choice((SHOW,), (SHOW,)))
        program = Program((same, (("write", "x", "a"), ("write", "x", "x"))),
            answers={("p", "a"): True, ("p", "x"): True})
        self.assertEqual(states(program), plain_states(program))

    def test_the_place_in_an_if_counts(self):
        # One thread comes to equal gets in both codes of an if, with all else equal.
        code = (READ, choice((("copy", "a", "c"), GET), (("copy", "a", "c"), GET)))
        program = Program((code, (("write", "x", "d"),)), answers={("p", "d"): True})
        self.assertEqual(states(program), 5)
        self.assertEqual(states(Program((code, (("write", "x", "d"),)))), 4)

    def test_a_register_that_has_its_name_again(self):
        swap = (("read", "a", "x"), ("read", "a", "y"))
        back = Program((swap, (("write", "y", "d"),)), cells={"x": "b", "y": "a"})
        # The last read brings a, or d if the other thread came ahead of it.
        self.assertEqual(states(back), 7)
        code = (READ, choice((("copy", "a", "c"),), ()), SHOW)
        two = Program((code, (("write", "x", "a"),)), cells={"x": "c"}, answers={("p", "a"): False})
        self.assertEqual(states(two), plain_states(two))
        # A register is set to its own name, or never set, and both come to the same state.
        own = (READ, choice((("copy", "b", "c"), ("copy", "b", "d")), (("copy", "c", "c"),)), ("copy", "a", "e"))
        either = Program((own, (("write", "x", "b"),)), cells={"x": "c"})
        self.assertEqual(states(either), 4)
        kept = Program((((("read", "c", "x"), ("copy", "c", "e"), ("copy", "d", "d"))), (("write", "x", "d"),)),
            cells={"x": "c"})
        self.assertEqual(states(kept), 4)

    def test_a_cell_that_has_its_content_again(self):
        program = Program(((("write", "x", "a"),), (("write", "x", "a"),)), cells={"x": "a"})
        self.assertEqual(states(program), 4)
        program = Program(((("write", "x", "a"),), (("write", "x", "b"),)))
        self.assertEqual(states(program), 5)
        told = Program(((("read", "a", "x"), ("write", "x", "a")), (SHOW,)))
        self.assertEqual((states(told), states(Program(told.threads, cells={"x": "x.1"}))), (6, 6))

    def test_letters_and_rows_count(self):
        program = Program(((READ, ("put", "a"), ("copy", "a", "c")), (("write", "x", "d"),)))
        self.assertEqual(states(program), 8)
        program = Program(((READ, ("show", "a"), ("copy", "a", "c")), (("write", "x", "d"),)))
        self.assertEqual(states(program), 8)
        # What is read and then neither kept, nor sent, nor shown makes no difference.
        program = Program(((READ, ("copy", "a", "c"), SHOW), (("write", "x", "d"),)))
        self.assertEqual(states(program), 6)
        # A put and then another thing do not come to the state of another letter.
        self.assertEqual(states(PAIR), 12)

    def test_as_many_as_plain_runs_come_to(self):
        rng = random.Random(31)
        for many in (1, 2, 2, 3):
            for _ in range(40):
                program = some_program(rng, many, 5 - many)
                if sum(len(code) for code in program.threads) <= 8:
                    self.assertEqual(states(program), plain_states(program), program.threads)


def plain_states(program):
    return len({run.state() for order, run in all_orders(program)})


class TooManyStates(unittest.TestCase):
    CALLS = (states, clash, is_orderly, ends, lambda program: end_order(program, ()), outcome)

    def test_just_as_many_as_the_bound(self):
        self.assertEqual(20 * 20 * 10, 4000)
        self.assertEqual(states(FULL), 4000)
        rows = (("a",) * 19, ("a",) * 19, ("a",) * 9)
        self.assertEqual((is_orderly(FULL), clash(FULL), ends(FULL), outcome(FULL)), (True, None, (rows,), rows))
        self.assertEqual(FULL(end_order(FULL, rows)).shown, rows)

    def test_more(self):
        for program in (OVER, Program(((SHOW,) * 19, (SHOW,) * 19, (SHOW,) * 10)), Program(((SHOW,) * 60,) * 3)):
            for call in self.CALLS:
                with self.assertRaises(TooMany) as caught:
                    call(program)
                self.assertEqual(caught.exception.limit, 4000)

    def test_also_if_two_threads_clash_early(self):
        program = Program(((WRITE,) + (SHOW,) * 20, (WRITE,) + (SHOW,) * 20, (SHOW,) * 20))
        self.assertEqual(program(()).clashing, ((0, 1),))
        for call in self.CALLS:
            with self.assertRaises(TooMany):
                call(program)
        self.assertIs(is_clash(program, ()), True)

    def test_not_for_judging_an_order(self):
        self.assertIs(is_clash(OVER, ()), False)
        self.assertIs(is_clash(OVER, (0, 1, 2) * 15), False)
        late = Program(((SHOW,) * 59 + (WRITE,), (SHOW,) * 59 + (WRITE,), (SHOW,) * 60))
        self.assertIs(is_clash(late, (0, 1) * 59), True)
        self.assertIs(is_clash(late, (0, 1) * 58 + (0,)), False)
        self.assertIs(is_clash(late, (2,) * 60 + (0, 1) * 59), True)

    def test_states_are_counted_and_not_runs(self):
        for program in (Program(((SHOW,) * 60, (SHOW,) * 60)), Program(((SHOW,) * 30, (SHOW,) * 30, (SHOW, SHOW)))):
            self.assertIs(is_orderly(program), True)
        self.assertEqual(states(Program(((SHOW,) * 60, (SHOW,) * 60))), 61 * 61)


class Clashes(unittest.TestCase):
    def test_an_order_after_which_two_clash(self):
        order = clash(PAIR)
        self.assertTrue(PAIR(order).clashing)
        self.assertIs(is_clash(PAIR, order), True)
        self.assertIs(is_orderly(PAIR), False)
        self.assertIs(is_orderly(CALM), True)
        self.assertIsNone(clash(CALM))

    def test_before_the_first_step(self):
        program = Program(((WRITE,), (READ,)))
        self.assertEqual((clash(program), is_clash(program, ())), ((), True))

    def test_reads_do_not_clash(self):
        self.assertIs(is_orderly(Program(((READ,), (READ,), (READ,)))), True)

    def test_a_thread_that_only_waits(self):
        waits = Program(((WRITE,), (GET, WRITE)))
        self.assertEqual((is_orderly(waits), outcome(waits), states(waits)), (True, ((), ()), 2))
        self.assertEqual((outcome(Program(((GET, SHOW),))), states(Program(((GET, SHOW),)))), (((),), 1))

    def test_orders_that_are_judged(self):
        for order, right in (((0, 0, 1), True), ((0, 0), False), ((0, 1), False), ((), False), ((0, 0, 1, 0), False),
                             ((0, 0, 1, 1), False), ((1,), False), ((0, 0, 0, 0), False), ((0, 0, 2), False),
                             ((0, 0, -1), False)):
            self.assertIs(is_clash(PAIR, order), right)

    def test_every_other_value(self):
        many = all_but()
        for value in many + [[0, 0, 1], (0, False, True), (0, 0, True), (False, 0, 1), "001", (0, 0, "1"), ((0, 0, 1),),
            {0: 1},
                             (0, 0, None), nested((0, 0, 1), 10), (0,) * 201, (0, 0, 1) + (1,) * 198]:
            self.assertIs(is_clash(PAIR, value), False, value)
            self.assertIs(is_clash(Program(((), ())), value), False, value)

    def test_orders_of_at_most_200_steps(self):
        # No program has more than 180 steps, so longer orders are never possible.
        program = Program(((SHOW,) * 59 + (WRITE,), (SHOW,) * 59 + (WRITE,), (SHOW,) * 60))
        order = (0,) * 59 + (1,) * 59 + (2,) * 60
        self.assertIs(is_clash(program, order), True)
        self.assertIs(is_clash(program, order + (2,)), False)
        self.assertIs(is_clash(program, order + (2,) * 22), False)
        self.assertIs(is_clash(program, order + (2,) * 23), False)


class Ends(unittest.TestCase):
    def test_all_different_rows(self):
        self.assertEqual(ends(PAIR), (((), ("a",)), ((), ("b",))))
        self.assertEqual((ends(CALM), outcome(CALM)), ((((), ("b",)),), ((), ("b",))))
        self.assertEqual(ends(Program(((),))), (((),),))
        self.assertEqual(ends(Program(((SHOW, SHOW), (SHOW,), ()))), ((("a", "a"), ("a",), ()),))

    def test_they_ascend(self):
        program = Program(((("write", "x", "b"),), (("write", "x", "a"),), (("read", "c", "x"), ("show", "c"))))
        self.assertEqual(ends(program), (((), (), ("a",)), ((), (), ("b",)), ((), (), ("x.1",))))

    def test_ends_where_threads_wait(self):
        program = Program(((GET, ("show", "b")), (READ, choice((PUT,)))), answers={("p", "c"): True})
        self.assertEqual(ends(program), (((), ()),))
        sent = Program(program.threads, cells={"x": "c"}, answers={("p", "c"): True})
        self.assertEqual(ends(sent), ((("c",), ()),))

    def test_orders_to_ends(self):
        for program in (PAIR, CALM, Program(((),))):
            for shown in ends(program):
                run = program(end_order(program, shown))
                self.assertEqual((run.is_end, run.shown), (True, shown))

    def test_there_is_none(self):
        wrong = all_but() + [((), ("c",)), ((), ()), (), ((),), [(), ("a",)], ((), ["a"]), (((), ("a",)),),
                                                    ((), ("x.1",)), ((), ("a", "a"))]
        for shown in wrong:
            with self.subTest(shown=shown), self.assertRaises(InvalidOperation):
                end_order(PAIR, shown)
        # What is shown on the way is no end.
        with self.assertRaises(InvalidOperation):
            end_order(Program(((SHOW, SHOW),)), (("a",),))

    def test_no_outcome_if_not_orderly(self):
        for program in (PAIR, Program(((WRITE,), (WRITE,)))):
            with self.assertRaises(InvalidOperation):
                outcome(program)
        self.assertEqual(len(ends(Program(((WRITE,), (WRITE,))))), 1)


class Promises(unittest.TestCase):
    def test_all_that_programs_do(self):
        rng = random.Random(32)
        calm = wild = 0
        for many in (1, 2, 2, 2, 3):
            for _ in range(60):
                program = some_program(rng, many, 5 - many)
                if sum(len(code) for code in program.threads) > 8:
                    continue
                runs = dict(all_orders(program))
                found = {run.shown() for run in runs.values() if run.ready() == ()}
                self.assertEqual(ends(program), tuple(sorted(found)))
                orderly = not any(run.clashing() for run in runs.values())
                self.assertIs(is_orderly(program), orderly)
                self.assertIs(clash(program) is None, orderly)
                for order, run in itertools.islice(runs.items(), 50):
                    self.assertIs(is_clash(program, order), run.clashing() != ())
                if orderly:
                    calm += 1
                    self.check_orderly(program, runs)
                else:
                    wild += 1
                    self.assertTrue(PlainRun(program, clash(program)).clashing())
        self.assertGreater(calm, 100)
        self.assertGreater(wild, 20)

    def check_orderly(self, program, runs):
        self.assertEqual((outcome(program),), ends(program))
        # Equally many steps of each thread lead to the same state, and no orders but those to the end end.
        met = {}
        for order, run in runs.items():
            steps = tuple(order.count(thread) for thread in range(len(program)))
            self.assertEqual(met.setdefault(steps, run.state()), run.state())
        self.assertEqual(len({len(order) for order, run in runs.items() if run.ready() == ()}), 1)


class Errors(unittest.TestCase):
    def test_what_is_no_program(self):
        wrong = all_but(Program)
        for value in wrong + [PAIR.threads, PAIR(()), [PAIR], (PAIR,)]:
            for call in (states, clash, is_orderly, ends, outcome):
                with self.subTest(value=value), self.assertRaises(InvalidProgram):
                    call(value)
            for second in ((), None, [], (0,), ((),)):
                with self.assertRaises(InvalidProgram):
                    is_clash(value, second)
                with self.assertRaises(InvalidProgram):
                    end_order(value, second)

    def test_too_many_comes_first(self):
        clashing = Program(((WRITE,) + (SHOW,) * 20, (WRITE,) + (SHOW,) * 20, (SHOW,) * 20))
        with self.assertRaises(TooMany):
            outcome(clashing)
        for shown in (None, (), ((), (), ())):
            with self.assertRaises(TooMany):
                end_order(OVER, shown)


if __name__ == "__main__":
    unittest.main()
