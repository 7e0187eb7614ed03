"""Pieces of programs: what they keep, which cells are private, and what can be put into their places."""

import random
import unittest

from orderlymoves.base.stretches import Stretch
from orderlymoves.errors import InvalidNumber, InvalidOperation, InvalidProgram, InvalidStretch, Refused, TooMany
from orderlymoves.judge.stand import fault, may_stand
from orderlymoves.lean.needs import least
from orderlymoves.live import pieces
from orderlymoves.live.pieces import exchanged, piece, private_cells
from orderlymoves.play.programs import Program
from orderlymoves.play.states import is_orderly, outcome
from samples import CELLS, all_but, all_but_numbers, check_errors, large, some_change, some_code, some_program

READ = ("read", "a", "x")
WRITE = ("write", "x", "a")
PUT = ("put", "a")
SHOW = ("show", "a")
LOOK = (("get", "c"), ("read", "d", "x"), ("show", "d"))
TWO = Program(((READ, ("write", "x", "b"), WRITE, PUT), LOOK))
EMPTY = Stretch(())


def choice(yes=(), no=(), name="t"):
    return ("if", "p", name, yes, no)


class Interface(unittest.TestCase):
    def test_all_is_defined_in_this_module(self):
        for name in ("piece", "private_cells", "exchanged"):
            self.assertEqual(getattr(pieces, name).__module__, "orderlymoves.live.pieces")


class Pieces(unittest.TestCase):
    def keeps(self, behind):
        """The registers that a piece ahead of some code keeps."""
        program = Program((LOOK, (PUT,) + behind, LOOK))
        self.assertEqual(piece(program, 1, 0, 1).code, (PUT,))
        self.assertEqual(piece(program, 1, 0, 0).keeps, tuple(sorted({"a", *piece(program, 1, 0, 1).keeps})))
        return piece(program, 1, 0, 1).keeps

    def test_the_code(self):
        code = (PUT, choice((READ,)), WRITE, ("get", "b"))
        program = Program((LOOK, code))
        for start in range(5):
            for end in range(start, 5):
                found = piece(program, 1, start, end)
                self.assertIsInstance(found, Stretch)
                self.assertEqual(found.code, code[start:end])
        self.assertEqual(piece(TWO, 0, 0, 3), Stretch(TWO.threads[0][:3], ("a",)))

    def test_a_whole_thread_and_none_of_it(self):
        self.assertEqual(piece(TWO, 0, 0, 4), Stretch(TWO.threads[0]))
        self.assertEqual((piece(TWO, 1, 3, 3), piece(TWO, 1, 0, 0)), (EMPTY, EMPTY))
        self.assertEqual((piece(TWO, 1, 2, 2), piece(TWO, 0, 0, 0)), (EMPTY.keeping(("d",)), EMPTY.keeping(("b",))))
        self.assertEqual(piece(Program(((),)), 0, 0, 0), EMPTY)

    def test_registers_that_are_used_behind(self):
        for behind, keeps in (
            ((), ()), ((SHOW,), ("a",)), ((("put", "c"),), ("c",)), ((("write", "y", "c"),), ("c",)),
            ((("copy", "b", "c"),), ("c",)),
            ((("set", "b", "f", ("d", "c")),), ("c", "d")), ((("set", "b", "f", ()),), ()), ((READ,), ()),
            ((("get", "c"),), ()),
            ((choice(),), ("t",)), ((("show", "z"), SHOW), ("a", "z")), ((("copy", "c", "c"),), ("c",)),
            ((("set", "c", "f", ("c", "c")),), ("c",)),
        ):
            self.assertEqual(self.keeps(behind), keeps)

    def test_registers_that_are_set_first(self):
        for behind, keeps in (
            ((READ, SHOW), ()), ((SHOW, READ), ("a",)), ((("get", "c"), ("put", "c")), ()),
            ((("copy", "c", "b"), ("put", "c")), ("b",)),
            ((("set", "c", "f", ("b",)), ("put", "c"), ("put", "b")), ("b",)),
            ((("set", "c", "f", ()), choice(name="c")), ()),
            ((("write", "a", "b"), SHOW), ("a", "b")), ((("read", "b", "a"), SHOW), ("a",)),
            ((PUT, READ, SHOW), ("a",)),
        ):
            self.assertEqual(self.keeps(behind), keeps)

    def test_through_ifs(self):
        for behind, keeps in (
            ((choice((SHOW,)),), ("a", "t")), ((choice((), (SHOW,)),), ("a", "t")),
            ((choice((READ,)), SHOW), ("a", "t")),
            ((choice((), (READ,)), SHOW), ("a", "t")), ((choice((READ,), (READ,)), SHOW), ("t",)),
            ((choice((READ, SHOW), ()),), ("t",)),
            ((choice((("copy", "b", "c"),), (READ,)), SHOW, ("show", "b")), ("a", "b", "c", "t")),
            ((READ, choice((SHOW,), (choice((SHOW,)),))), ("t",)),
            ((choice((choice((READ,), (READ,)),), (READ,)), SHOW), ("t",)),
            ((choice((choice((READ,), ()),), (READ,)), SHOW), ("a", "t")),
            ((("get", "t"), choice((("show", "t"),))), ()),
            ((choice((READ,), ()), choice((SHOW,), ())), ("a", "t")), ((choice((), (), "a"),), ("a",)),
        ):
            self.assertEqual(self.keeps(behind), keeps)

    def test_pieces_that_are_greater(self):
        code = (PUT,) * 30 + tuple(("show", name) for name in "abcdef")
        found = piece(Program((code,)), 0, 0, 30)
        self.assertEqual((found.size, found.keeps), (30, tuple("abcdef")))
        with self.assertRaises(InvalidStretch):
            Stretch(found.code)
        self.assertIs(may_stand(found, found), True)
        self.assertEqual(least(found), found)

    def test_a_show_among_them(self):
        program = Program(((PUT, SHOW, PUT, choice((choice((), (SHOW,)),)), PUT),))
        for start, end, right in ((0, 1, True), (0, 2, False), (1, 1, True), (1, 2, False), (2, 3, True), (2, 4, False),
            (3, 4, False),
                                  (3, 3, True), (4, 5, True), (0, 5, False)):
            if right:
                self.assertEqual(piece(program, 0, start, end).size, end - start)
                continue
            with self.assertRaises(InvalidOperation):
                piece(program, 0, start, end)
            with self.assertRaises(InvalidOperation):
                exchanged(program, 0, start, end, EMPTY)


class PrivateCells(unittest.TestCase):
    def test_cells_without_a_statement_of_another_thread(self):
        code = (READ, choice((choice((), (("write", "y", "a"),)),)))
        program = Program((code, (("read", "a", "z"), ("write", "x", "a"))), cells={"w": "a", "z": "a"})
        self.assertEqual((private_cells(program, 0), private_cells(program, 1)), (("w", "y"), ("w", "z")))
        self.assertEqual((private_cells(TWO, 0), private_cells(TWO, 1)), ((), ()))

    def test_one_and_three_threads(self):
        self.assertEqual(private_cells(Program(((READ,),), cells={"y": "a"}), 0), ("x", "y"))
        self.assertEqual(private_cells(Program(((),)), 0), ())
        program = Program(((READ,), (("read", "a", "y"),), (("read", "a", "z"),)))
        self.assertEqual([private_cells(program, thread) for thread in range(3)], [("x",), ("y",), ("z",)])
        both = Program(((READ,), (READ,), ()))
        self.assertEqual([private_cells(both, thread) for thread in range(3)], [(), (), ()])


class Exchanged(unittest.TestCase):
    def test_the_document(self):
        self.assertEqual(exchanged(TWO, 0, 0, 3, Stretch((READ,))).threads, ((READ, PUT), LOOK))
        with self.assertRaises(Refused) as caught:
            exchanged(TWO, 0, 2, 4, Stretch((PUT, WRITE)))
        self.assertEqual(caught.exception.reason, ("content", "x", 0))

    def test_cells_and_answers_stay(self):
        program = Program(((READ, PUT), LOOK), cells={"x": "b", "z": "a"}, answers={("p", "a"): True})
        made = exchanged(program, 0, 0, 2, Stretch((READ, READ, PUT)))
        self.assertEqual(made, Program(((READ, READ, PUT), LOOK), cells=program.cells, answers=program.answers))
        self.assertEqual(program.threads, ((READ, PUT), LOOK))

    def test_what_the_stretch_keeps_has_no_meaning(self):
        for keeps in ((), ("a",), ("q",), ("a", "b", "c", "d")):
            self.assertEqual(exchanged(TWO, 0, 0, 3, Stretch((READ,), keeps)).threads[0], (READ, PUT))
            with self.assertRaises(Refused) as caught:
                exchanged(TWO, 0, 0, 3, Stretch((), keeps))
            self.assertEqual(caught.exception.reason, ("register", "a"))

    def test_private_cells(self):
        program = Program(((PUT, ("get", "g"), ("write", "y", "b")), LOOK))
        touched = Program(program.threads[:1] + (LOOK + (choice((("read", "c", "y"),)),),))
        late, early = Stretch((PUT, ("get", "g"), ("write", "y", "b"))), Stretch((("write", "y", "b"), PUT,
            ("get", "g")))
        for stretch in (late, early):
            self.assertEqual(exchanged(program, 0, 0, 3, stretch).threads[0], stretch.code)
        self.assertEqual(exchanged(touched, 0, 0, 3, late), touched)
        with self.assertRaises(Refused) as caught:
            exchanged(touched, 0, 0, 3, early)
        self.assertEqual(caught.exception.reason, ("bare", 0))

    def test_cells_that_are_new_in_the_program(self):
        # Nobody else has a statement on them, so they can be read, and written if they are as before at the end.
        fresh = Stretch((("read", "q", "new"), ("write", "new", "a"), ("write", "new", "q"), PUT))
        self.assertEqual(exchanged(TWO, 0, 3, 4, fresh).names, ("new", "x"))
        with self.assertRaises(Refused) as caught:
            exchanged(TWO, 0, 3, 4, Stretch((("write", "new", "a"), PUT)))
        self.assertEqual(caught.exception.reason, ("content", "new", 1))
        other = Program((TWO.threads[0], LOOK + (("read", "c", "new"),)))
        with self.assertRaises(Refused) as caught:
            exchanged(other, 0, 3, 4, fresh)
        self.assertEqual(caught.exception.reason, ("bare", 0))

    def test_the_fault_of_the_first_case(self):
        program = Program(((choice((PUT,), (WRITE,), "a"),), (READ,)))
        for code, reason in (((), ("letter", 0)), ((PUT,), ("letter", 0)),
                ((choice((PUT,), (), "a"),), ("content", "x", 0))):
            with self.assertRaises(Refused) as caught:
                exchanged(program, 0, 0, 1, Stretch(code))
            self.assertEqual(caught.exception.reason, reason)
            self.assertEqual(fault(piece(program, 0, 0, 1), Stretch(code)).fault, reason)

    def test_empty_pieces_and_whole_threads(self):
        self.assertEqual(exchanged(TWO, 0, 4, 4, Stretch((("read", "q", "y"),))).threads[0],
            TWO.threads[0] + (("read", "q", "y"),))
        self.assertEqual(exchanged(TWO, 0, 2, 2, EMPTY), TWO)
        whole = Stretch((READ, PUT))
        self.assertEqual(exchanged(TWO, 0, 0, 4, whole).threads[0], whole.code)
        with self.assertRaises(Refused) as caught:
            exchanged(TWO, 1, 3, 3, Stretch((WRITE,)))
        self.assertEqual(caught.exception.reason, ("bare", 0))
        self.assertEqual(exchanged(Program(((),)), 0, 0, 0, EMPTY), Program(((),)))

    def test_programs_that_get_too_great(self):
        full = Program(((READ,) * 60, ()))
        for many, right in ((10, True), (11, False)):
            stretch = large((READ,) * many)
            if right:
                self.assertEqual(len(exchanged(full, 0, 0, 10, stretch).threads[0]), 60)
                continue
            with self.assertRaises(InvalidProgram):
                exchanged(full, 0, 0, 10, stretch)
        sets = Program(((("set", "q", "f", ("a",)),) * 6,))
        with self.assertRaises(InvalidProgram):
            exchanged(sets, 0, 0, 0, Stretch((("set", "q", "f", ("a",)),)))
        with self.assertRaises(InvalidProgram):
            exchanged(Program(((choice(),) * 6,)), 0, 2, 2, Stretch((choice(),)))
        # What may not stand is refused, also if it would be too great.
        with self.assertRaises(Refused):
            exchanged(full, 0, 0, 10, large((PUT,) * 11))

    def test_programs_that_are_not_orderly(self):
        wild = Program(((WRITE,), (READ,)))
        self.assertEqual(exchanged(wild, 0, 0, 1, Stretch((WRITE, WRITE))).threads[0], (WRITE, WRITE))


class Promises(unittest.TestCase):
    def test_histories_of_exchanges(self):
        rng = random.Random(71)
        done = refused = 0
        for at in range(160):
            program = some_program(rng, (1, 2, 2, 3)[at % 4], 5)
            if not self.is_calm(program):
                continue
            shown = outcome(program)
            for _ in range(8):
                thread = rng.randrange(len(program))
                start = rng.randint(0, len(program.threads[thread]))
                end = rng.randint(start, len(program.threads[thread]))
                try:
                    one = piece(program, thread, start, end)
                    code = rng.choice((some_change(rng, one.code), one.code + (("read", "q", rng.choice(CELLS)),),
                        some_code(rng, 1)))
                    program = exchanged(program, thread, start, end, large(code))
                except (Refused, InvalidOperation, InvalidProgram):
                    refused += 1
                    continue
                done += 1
                if self.is_small(program):
                    self.assertEqual((is_orderly(program), outcome(program)), (True, shown))
        self.assertGreater(done, 150)
        self.assertGreater(refused, 150)

    def is_calm(self, program):
        try:
            return is_orderly(program)
        except TooMany:
            return False

    def is_small(self, program):
        return sum(len(code) for code in program.threads) < 30

    def test_what_may_stand_can_be_put_in_several_times(self):
        rng = random.Random(72)
        met = 0
        for _ in range(2000):
            one = large(some_code(rng, rng.randint(1, 3)), ("a", "b", "c"))
            other = large(some_change(rng, one.code), one.keeps)
            if one == other or not may_stand(one, other):
                continue
            between = some_code(rng, 1)
            for codes in ((one.code + between + one.code, ()), (one.code, one.code + between),
                    (one.code, between, one.code)):
                program = Program(codes)
                if not self.is_calm(program):
                    continue
                made = Program(tuple(replaced(code, one.code, other.code) for code in codes))
                self.assertEqual((is_orderly(made), outcome(made)), (True, outcome(program)))
                met += 1
        self.assertGreater(met, 300)

    def test_a_least_piece(self):
        rng = random.Random(73)
        met = 0
        for _ in range(300):
            program = some_program(rng, 2, 6, 0.2)
            if self.is_calm(program):
                for thread, code in enumerate(program.threads):
                    start = rng.randint(0, len(code))
                    end = start
                    while end < len(code) and code[end][0] not in ("if", "show"):
                        end += 1
                    one = piece(program, thread, start, end)
                    made = exchanged(program, thread, start, end, least(one))
                    self.assertEqual(outcome(made), outcome(program))
                    met += made != program
        self.assertGreater(met, 50)


def replaced(code, one, other):
    """Code in which each stretch that stands there, from the left, is replaced."""
    found, at = [], 0
    while at < len(code):
        if code[at:at + len(one)] == one:
            found += other
            at += len(one)
        else:
            found.append(code[at])
            at += 1
    return tuple(found)


class Errors(unittest.TestCase):
    PROGRAMS = all_but(Program) + [TWO.threads, TWO(())]
    THREADS = all_but_numbers(0, 1) + [2, -1]
    STARTS = all_but_numbers(0, 1, 2, 3, 4) + [5, -1]
    ENDS = all_but_numbers(1, 2, 3, 4) + [0, 5, -1]
    STRETCHES = all_but(Stretch) + [(), (READ,)]

    def test_the_first_that_applies(self):
        told = [(TWO, self.PROGRAMS, InvalidProgram), (0, self.THREADS, InvalidNumber), (1, self.STARTS, InvalidNumber),
                (1, self.ENDS, InvalidNumber)]
        check_errors(self, piece, told)
        check_errors(self, private_cells, told[:2])
        check_errors(self, exchanged, told + [(EMPTY, self.STRETCHES, InvalidStretch)])

    def test_errors_before_a_show(self):
        shows = Program(((SHOW,), ()))
        told = [(shows, self.PROGRAMS[:20], InvalidProgram), (0, self.THREADS[:20], InvalidNumber),
            (0, [2, -1, None], InvalidNumber),
                (1, [2, -1, None], InvalidNumber), (EMPTY, self.STRETCHES, InvalidStretch)]
        check_errors(self, exchanged, told)
        with self.assertRaises(InvalidOperation):
            exchanged(shows, 0, 0, 1, large((PUT,) * 61))

    def test_which_number_is_kept(self):
        for arguments, kept in (((2, 9, 9), 2), ((0, 5, 9), 5), ((0, 3, 2), 2), ((0, 4, 5), 5), ((True, 0, 0), True),
            ((0, None, 0), None),
                                ((0, 0, False), False), ((1, 4, 4), 4)):
            for call in (piece, lambda *given: exchanged(*given, None)):
                with self.assertRaises(InvalidNumber) as caught:
                    call(TWO, *arguments)
                self.assertEqual(repr(caught.exception.value), repr(kept))


if __name__ == "__main__":
    unittest.main()
