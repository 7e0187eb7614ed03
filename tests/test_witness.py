"""Witnesses: surroundings, the programs that they make, and those that show that a stretch may not stand."""

import itertools
import random
import unittest

from orderlymoves.base.statements import flattened
from orderlymoves.base.stretches import Stretch
from orderlymoves.errors import InvalidOperation, InvalidProgram, InvalidStretch, TooMany
from orderlymoves.judge import witness as module
from orderlymoves.judge.stand import fault, may_stand
from orderlymoves.judge.witness import Surrounding, is_witness, surrounded, witness
from orderlymoves.play.programs import Program
from orderlymoves.play.states import is_orderly, outcome, states
from samples import (
    CELLS, REGISTERS, all_but, check_errors, large, no_answers, no_names, no_values, some_code, some_pairs)
from test_programs import wrong_codes

BEHIND = Stretch((("put", "a"), ("write", "x", "a")))
AHEAD = Stretch((("write", "x", "a"), ("put", "a")))
WAIT = Stretch((("get", "r"), ("read", "s", "x")), ("r", "s"))
EARLY = Stretch((("read", "s", "x"), ("get", "r")), ("r", "s"))
EMPTY = Stretch(())
LOOK = Surrounding((("get", "b"), ("read", "c", "x"), ("show", "c")), (), {"x": "old"}, {})
READ = ("read", "r", "x")
WRITE = ("write", "x", "a")
SHOW = ("show", "m")
PRIVATE = ((), ("x",), ("y",), ("x", "y"), ("a", "b", "m", "x"))


def choice(test, name, yes=(), no=()):
    return ("if", test, name, yes, no)


class Interface(unittest.TestCase):
    def test_all_is_defined_in_this_module(self):
        for name in ("Surrounding", "surrounded", "witness", "is_witness"):
            self.assertEqual(getattr(module, name).__module__, "orderlymoves.judge.witness")
        for name in ("partner", "behind", "cells", "answers"):
            self.assertIsInstance(vars(Surrounding)[name], property)
        for name in ("__init__", "__eq__", "__str__"):
            self.assertIn(name, vars(Surrounding))

    def test_private_is_passed_by_keyword(self):
        with self.assertRaises(TypeError):
            witness(BEHIND, AHEAD, ())
        with self.assertRaises(TypeError):
            is_witness(BEHIND, AHEAD, LOOK, ())


class Surroundings(unittest.TestCase):
    def test_what_it_has(self):
        cells, answers = {"y": "f(x.1)", "x": "a"}, {("q", "a"): False, ("p", "b"): True}
        found = Surrounding(LOOK.partner, (SHOW,), cells, answers)
        self.assertEqual((found.partner, found.behind), (LOOK.partner, (SHOW,)))
        self.assertEqual(list(found.cells.items()), [("x", "a"), ("y", "f(x.1)")])
        self.assertEqual(list(found.answers.items()), [(("p", "b"), True), (("q", "a"), False)])
        cells["x"] = answers["p", "b"] = None
        found.cells["x"] = found.answers["p", "b"] = None
        found.cells.clear()
        self.assertEqual((found.cells, found.answers),
            ({"x": "a", "y": "f(x.1)"}, {("p", "b"): True, ("q", "a"): False}))
        for name in ("partner", "behind", "cells", "answers"):
            with self.subTest(name), self.assertRaises(AttributeError):
                setattr(found, name, None)

    def test_equality(self):
        parts = (LOOK.partner, (SHOW,), {"x": "a", "y": "b"}, {("p", "a"): True})
        self.assertEqual(Surrounding(*parts),
            Surrounding(LOOK.partner, (SHOW,), {"y": "b", "x": "a"}, {("p", "a"): True}))
        for at, other in enumerate(((), (), {"x": "a"}, {("p", "a"): False})):
            changed = Surrounding(*parts[:at], other, *parts[at + 1:])
            self.assertIs(changed == Surrounding(*parts), False)
            self.assertIs(changed != Surrounding(*parts), True)
        for value in all_but() + [parts, surrounded(EMPTY, LOOK)]:
            self.assertIs(Surrounding(*parts) == value, False)

    def test_text(self):
        self.assertEqual(str(LOOK), "surrounding of 3 and 0 statements")
        code = (choice("p", "a", (SHOW,), (choice("p", "a"),)),)
        self.assertEqual(str(Surrounding(code, code + (SHOW,), {}, {})), "surrounding of 3 and 4 statements")

    def test_it_is_not_iterated_over(self):
        with self.assertRaises(TypeError):
            list(LOOK)

    def test_codes_as_in_a_thread(self):
        for code in ((), (SHOW,) * 60, (choice("p", "a"),) * 6):
            self.assertEqual(Surrounding(code, (), {}, {}).partner, code)
            self.assertEqual(Surrounding((), code, {}, {}).behind, code)

    def test_wrong_arguments(self):
        cells = [value for value in all_but() if value not in ({}, {"a": "b"})] + [{"x": 1}, {1: "a"}, ()]
        cells += [{name: "a"} for name in no_names()] + [{"x": value} for value in no_values()]
        check_errors(self, Surrounding, [
            ((), wrong_codes(), InvalidProgram), ((), wrong_codes(), InvalidProgram), ({}, cells, InvalidProgram),
            ({}, no_answers(), InvalidProgram),
        ])

    def test_programs(self):
        program = surrounded(AHEAD, Surrounding((SHOW,), (("put", "b"),), {"x": "old"}, {("p", "a"): True}))
        self.assertEqual(program.threads, (AHEAD.code + (("put", "b"),), (SHOW,)))
        self.assertEqual((program.cells, program.answers), ({"x": "old"}, {("p", "a"): True}))
        self.assertEqual([is_orderly(surrounded(AHEAD, LOOK)), is_orderly(surrounded(BEHIND, LOOK))], [True, False])

    def test_programs_that_are_too_great(self):
        put = ("put", "a")
        fits, over = Surrounding((), (put,) * 58, {}, {}), Surrounding((), (put,) * 59, {}, {})
        self.assertEqual(len(surrounded(AHEAD, fits).threads[0]), 60)
        with self.assertRaises(InvalidProgram):
            surrounded(AHEAD, over)
        with self.assertRaises(InvalidProgram):
            surrounded(large((put,) * 61), Surrounding((), (), {}, {}))
        ifs = Stretch((choice("p", "a"),) * 3)
        with self.assertRaises(InvalidProgram):
            surrounded(ifs, Surrounding((), (choice("p", "a"),) * 4, {}, {}))

    def test_wrong_arguments_of_surrounded(self):
        surroundings = all_but(Surrounding)
        check_errors(self, surrounded, [
            (AHEAD, all_but(Stretch), InvalidStretch),
            (LOOK, surroundings + [surrounded(AHEAD, LOOK), (LOOK,)], InvalidOperation),
        ])


class Witnesses(unittest.TestCase):
    def seen(self, one, other, keeps=(), private=()):
        """Checks the witness of two codes, and returns it."""
        one, other = Stretch(one, keeps), Stretch(other, keeps)
        found = witness(one, other, private=private)
        self.assertIsInstance(found, Surrounding)
        self.check(one, other, private, found)
        return found

    def check(self, one, other, private, found):
        self.assertIs(is_witness(one, other, found, private=private), True)
        self.assertLessEqual(len(flattened(found.partner)), 40)
        self.assertLessEqual(len(flattened(found.behind)), 4)
        self.assertEqual(witness(one, other, private=private), found)
        self.assertTrue(is_orderly(surrounded(one, found)))
        program = surrounded(other, found)
        self.assertTrue(not is_orderly(program) or outcome(program) != outcome(surrounded(one, found)))

    def test_there_is_none(self):
        for one, other in ((BEHIND, AHEAD), (EARLY, WAIT), (EMPTY, EMPTY), (Stretch((READ,)), EMPTY)):
            self.assertIsNone(witness(one, other))
        self.assertIsNone(witness(WAIT, EARLY, private=("x",)))

    def test_bare_accesses(self):
        put, get = ("put", "a"), ("get", "g")
        for one in ((put, get, READ), (READ, put, get), (READ, put, get, READ), (WRITE, put, get, WRITE), (put, get),
                (get, put)):
            for access in (READ, WRITE, ("read", "r", "y"), ("write", "y", "a")):
                for at in range(len(one) + 1):
                    other = one[:at] + (access,) + one[at:]
                    if may_stand(Stretch(one), Stretch(other)):
                        self.assertIsNone(witness(Stretch(one), Stretch(other)))
                    else:
                        self.seen(one, other)

    def test_bare_accesses_of_each_kind(self):
        self.assertEqual(self.seen((), (READ,)).partner[-1][:2], ("write", "x"))
        self.assertEqual(self.seen((), (WRITE,)).partner[-1][::2], ("read", "x"))
        self.assertEqual(self.seen((READ,), (WRITE,)).partner[-1][::2], ("read", "x"))

    def test_letters_of_unlike_kinds_and_values(self):
        for one, other in itertools.product(itertools.product((("put", "a"), ("put", "b"), ("get", "c")), repeat=2),
                repeat=2):
            if one == other:
                self.assertIsNone(witness(Stretch(one), Stretch(other)))
            else:
                self.seen(one, other)

    def test_too_few_and_too_many_letters(self):
        code = (("put", "a"), ("get", "b"), ("get", "c"), ("put", "b"), ("put", "c"), ("get", "b"))
        for one, other in itertools.permutations(range(len(code) + 1), 2):
            self.seen(code[:one], code[:other])

    def test_letters_behind_tests(self):
        one = (("get", "a"), choice("p", "a", (("put", "a"),), (("get", "b"),)))
        other = (("get", "a"), choice("p", "a", (("put", "a"),), (("get", "b"), ("put", "a"))))
        self.assertEqual(self.seen(one, other).answers, {("p", "get.1"): False})
        self.assertEqual(self.seen(one, one[:1]).answers, {("p", "get.1"): True})

    def test_contents(self):
        put, get, write = ("put", "a"), ("get", "g"), ("write", "x", "b")
        for one, other in (
            ((WRITE,), ()), ((WRITE,), (write,)), ((WRITE, put), (put, WRITE)), ((WRITE, put), (write, put)),
            ((WRITE, put, get, write), (WRITE, put, get, WRITE)), ((WRITE, put, get, write), (write, put, get, write)),
            ((WRITE, put, get, write, put), (WRITE, put, get, WRITE, put)), ((put, WRITE), (put, write)),
            ((get, WRITE, put), (get, put)),
            ((READ, put, get, WRITE, put, get, write), (READ, put, get, write, put, get, write)),
        ):
            self.seen(one, other)

    def test_contents_that_come_from_others(self):
        put, get = ("put", "a"), ("get", "g")
        copy = ("write", "y", "r")
        one = (READ, put, get, READ, copy, put)
        self.seen(one, (READ, put, get, copy, put))
        self.seen((READ, put, get, READ), (READ, put, get), ("r",))
        self.seen((READ, put, get, READ, put, get, READ), (READ, put, get, READ, put, get), ("r",))

    def test_answers_for_what_others_have_written(self):
        turn, ends = (READ, ("put", "a"), ("get", "g")), {True: (), False: ()}
        for many in (1, 2, 3):
            one = turn * many + (READ,)
            for answer in (True, False):
                codes = {**ends, answer: (("copy", "q", "r"),)}
                found = self.seen(one, one + (choice("p", "r", codes[True], codes[False]),), ("q",))
                self.assertEqual(found.answers, {("p", f"x.{many + 1}"): answer})

    def test_contents_of_private_cells(self):
        for one, other in (((), (WRITE,)), ((WRITE,), ()), ((WRITE,), (("write", "x", "b"),)),
                ((READ,), (READ, WRITE))):
            self.seen(one, other, private=("x",))
            self.seen(one + (("put", "a"),), other + (("put", "a"),), private=("x", "y"))
        self.seen((("write", "y", "a"),), (("write", "y", "a"), WRITE), private=("x",))

    def test_kept_registers(self):
        for one, other in (((), (("copy", "a", "b"),)), ((READ,), ()), ((("get", "a"),), (("get", "b"),)),
                           ((("set", "a", "f", ()),), (("set", "a", "g", ()),))):
            self.seen(one, other, ("a", "r"))
        found = self.seen((("copy", "a", "b"),), (("copy", "a", "c"),), ("a", "b"))
        self.assertEqual(found.behind, (("show", "a"),))

    def test_names_that_the_witness_could_want(self):
        used = ("a", "b", "c", "m")
        for one, other in itertools.permutations(((), (("read", "m", "m"),), (("write", "m", "m"),), (("put", "m"),),
                (("get", "m"),)), 2):
            for keeps in ((), ("m",), used):
                if may_stand(Stretch(one, keeps), Stretch(other, keeps)):
                    continue
                self.seen(one, other, keeps)
                self.seen(one + (("read", "a", "a"),), other + (("read", "a", "a"),), keeps)
        letters = tuple("abcdefghijklmnopqrstuvw")
        self.seen((("get", "a"), READ), (("get", "a"), WRITE, READ), private=letters)
        self.seen((("get", "a"),), (("get", "b"),), ("a",), private=letters + ("x", "y", "z"))

    def test_great_stretches(self):
        # As many letters, cells and chains as a stretch can have.
        turns = ((("put", "a"), ("get", "b")), (("put", "b"), ("get", "c")), (("put", "a"), ("get", "d")))
        looks = tuple(("read", cell, cell) for cell in "wxyz")
        code = looks + turns[0] + looks + turns[1] + looks + turns[2] + looks[:4]
        one = Stretch(code[:22], ("w", "x", "y", "z"))
        for at in range(22):
            other = Stretch(code[:at] + code[at + 1:22], one.keeps)
            for first, second in ((one, other), (other, one)):
                found = witness(first, second)
                if found is not None:
                    self.check(first, second, (), found)
        self.assertIsNotNone(witness(one, Stretch(code[:21], one.keeps)))

    def test_there_is_one_exactly_if_it_may_not_stand(self):
        kinds = {}
        for one, other in some_pairs(41, 700):
            for private in PRIVATE[:4]:
                if len(one.code) > 24:
                    continue
                case = fault(one, other, private=private)
                try:
                    found = witness(one, other, private=private)
                except InvalidStretch:
                    continue
                self.assertIs(found is None, case is None)
                if case is not None:
                    kinds[case.fault[0], case.answers != {}, private != ()] = True
                    self.check(one, other, private, found)
        self.assertGreaterEqual(len(kinds), 14, kinds)

    def test_it_is_new_each_time(self):
        found = witness(Stretch((("get", "a"), WRITE)), Stretch((("get", "a"),)))
        again = witness(Stretch((("get", "a"), WRITE)), Stretch((("get", "a"),)))
        found.cells.clear()
        self.assertEqual(found, again)


class Judged(unittest.TestCase):
    def judged(self, one, other, surrounding, private=()):
        return is_witness(one, other, Surrounding(*surrounding), private=private)

    def test_the_document(self):
        self.assertEqual([is_witness(AHEAD, BEHIND, LOOK), is_witness(BEHIND, AHEAD, LOOK)], [True, False])

    def test_the_program_with_the_first_one_is_orderly(self):
        self.assertIs(self.judged(EMPTY, Stretch((WRITE,)), ((("read", "m", "x"),), (), {}, {})), True)
        self.assertIs(self.judged(Stretch((WRITE,)), EMPTY, ((("read", "m", "x"),), (), {}, {})), False)
        self.assertIs(self.judged(Stretch((WRITE,)), EMPTY, ((), (("read", "m", "x"), SHOW), {}, {})), True)
        both = ((("read", "m", "x"), SHOW), (("read", "m", "x"), SHOW), {}, {})
        self.assertIs(self.judged(Stretch((WRITE,)), EMPTY, both), False)

    def test_something_else_is_shown(self):
        one, other = Stretch((("put", "a"),)), Stretch((("put", "b"),))
        self.assertIs(self.judged(one, other, ((("get", "m"), SHOW), (), {}, {})), True)
        self.assertIs(self.judged(one, other, ((("get", "m"),), (), {}, {})), False)
        self.assertIs(self.judged(one, other, ((), (), {}, {})), False)
        tested = choice("p", "m", (("show", "c"),), (("show", "d"),))
        self.assertIs(self.judged(one, other, ((("get", "m"), tested), (), {}, {("p", "a"): True})), True)
        self.assertIs(self.judged(one, other, ((("get", "m"), tested), (), {}, {("p", "c"): True})), False)

    def test_the_partner_leaves_private_cells_alone(self):
        one, other = Stretch((WRITE,)), EMPTY
        behind = (("read", "m", "x"), SHOW)
        self.assertIs(self.judged(one, other, ((), behind, {}, {}), ("x",)), True)
        for code in ((choice("p", "a", (("read", "m", "x"),)),),
                (choice("p", "a", (), (choice("q", "a", (WRITE,)),)),)):
            waiting = (("get", "m"),) + code
            self.assertIs(self.judged(one, other, (waiting, behind, {}, {})), True)
            self.assertIs(self.judged(one, other, (waiting, behind, {}, {}), ("x",)), False)
            self.assertIs(self.judged(one, other, (waiting, behind, {}, {}), ("w", "y")), True)

    def test_contents_of_private_cells_can_be_told(self):
        behind = (("read", "m", "x"), SHOW)
        self.assertIs(self.judged(Stretch((WRITE,)), EMPTY, ((), behind, {"x": "b"}, {}), ("x",)), True)
        self.assertIs(self.judged(Stretch((WRITE,)), EMPTY, ((), behind, {"x": "a"}, {}), ("x",)), False)

    def test_the_code_behind_uses_kept_registers(self):
        one, other = Stretch((("copy", "a", "b"),)), EMPTY
        for keeps, right in (((), False), (("b",), False), (("a",), True), (("a", "b"), True)):
            self.assertIs(self.judged(one.keeping(keeps), other.keeping(keeps), ((), (("show", "a"),), {}, {})), right)

    def test_or_registers_that_it_has_set_on_each_way(self):
        one, other = Stretch((("put", "a"),)), EMPTY
        partner = (("get", "m"), SHOW)
        constant = ("set", "c", "f", ())
        for behind, right in (
            ((("show", "c"),), False), ((constant, ("show", "c")), True), ((("show", "c"), constant), False),
            ((choice("p", "a"),), False), ((choice("p", "k"),), True),
            ((choice("p", "k", (constant,)), ("show", "c")), False),
            ((choice("p", "k", (), (constant,)), ("show", "c")), False),
            ((choice("p", "k", (constant,), (constant,)), ("show", "c")), True),
            ((choice("p", "k", (constant, ("show", "c")), ()),), True),
            ((choice("p", "k", (("show", "c"),), (constant,)),), False),
            ((("write", "y", "c"),), False), ((("write", "y", "k"),), True), ((("set", "d", "f", ("k", "c")),), False),
            ((("set", "d", "f", ("k",)), ("show", "d")), True), ((("copy", "d", "c"),), False),
            ((("copy", "c", "c"),), False),
            ((("set", "c", "f", ("c",)),), False), ((("read", "c", "y"), ("show", "c")), True),
            ((("get", "c"), ("show", "c")), True),
            ((("put", "k"),), True), ((("put", "c"),), False), ((("copy", "c", "k"), ("put", "c")), True),
        ):
            found = self.judged(one.keeping(("k",)), other.keeping(("k",)), (partner, behind, {}, {}))
            self.assertIs(found, right, behind)

    def test_it_takes_both(self):
        put = ("put", "a")
        one, other = Stretch((put,) * 6), Stretch((put,) * 5)
        partner = (("get", "m"), SHOW) * 6
        for many, right in ((0, True), (54, True), (55, False), (60, False)):
            behind = (("get", "m"),) * many
            self.assertIs(self.judged(one, other, (partner, behind, {}, {})), right, many)
            self.assertIs(self.judged(other, one, (partner, behind, {}, {})), right, many)
        self.assertIs(is_witness(large((put,) * 61), one, Surrounding(partner, (), {}, {})), False)
        self.assertIs(is_witness(one, large((put,) * 61), Surrounding(partner, (), {}, {})), False)

    def test_no_bound_of_states(self):
        surrounding = Surrounding((("read", "m", "x"),) + (SHOW,) * 50, (("get", "c"),) + (("show", "c"),) * 50, {}, {})
        shows = Surrounding((("read", "m", "x"),) + (SHOW,) * 50, (("set", "c", "f", ()),) + (("show", "c"),) * 50, {},
            {})
        other = Stretch((WRITE,))
        with self.assertRaises(TooMany):
            states(surrounded(other, shows))
        self.assertIs(is_witness(EMPTY, other, shows), True)
        self.assertIs(is_witness(other, EMPTY, shows), False)
        self.assertIs(is_witness(EMPTY, other, surrounding), True)
        long = Surrounding((("put", "a"),) * 60, (("get", "c"),) * 57 + (("show", "c"),), {}, {})
        self.assertIs(is_witness(Stretch((("get", "a"),)), EMPTY, long), False)

    def test_every_other_value(self):
        for value in all_but() + [
                (LOOK,), [LOOK], {"a": LOOK}, (LOOK.partner, (), {"x": "old"}, {}), surrounded(AHEAD, LOOK),
                surrounded(AHEAD, LOOK)(())]:
            self.assertIs(is_witness(AHEAD, BEHIND, value), False, value)
            self.assertIs(is_witness(BEHIND, AHEAD, value), False, value)

    def test_all_surroundings_are_judged_rightly(self):
        rng = random.Random(42)
        right = wrong = 0
        for one, other in some_pairs(43, 400):
            may = may_stand(one, other)
            for _ in range(8):
                found = self.some_surrounding(rng)
                judged = is_witness(one, other, found)
                self.assertIs(judged, self.plainly(one, other, found))
                self.assertFalse(may and judged)
                right += judged
                wrong += not judged
        self.assertGreater(right, 50)
        self.assertGreater(wrong, 1000)

    def some_surrounding(self, rng):
        partner = list(some_code(rng, rng.randint(0, 4)))
        partner.insert(rng.randint(0, len(partner)), ("show", rng.choice(REGISTERS)))
        behind = ([], [("show", rng.choice(REGISTERS))], [("read", "m", rng.choice(CELLS)), SHOW])[rng.randrange(3)]
        answers = {("p", value): True for value in ("a", "b", "c", "x.1") if rng.random() < 0.3}
        return Surrounding(tuple(partner), tuple(behind), {}, answers)

    def plainly(self, one, other, found):
        if found.behind[:1] and found.behind[0][0] == "show" and found.behind[0][1] not in one.keeps:
            return False
        programs = []
        for stretch in (one, other):
            try:
                programs.append(surrounded(stretch, found))
            except InvalidProgram:
                return False
        if not is_orderly(programs[0]):
            return False
        return not is_orderly(programs[1]) or outcome(programs[0]) != outcome(programs[1])


class Errors(unittest.TestCase):
    STRETCHES = all_but(Stretch) + [(), (("put", "a"),), LOOK]
    SETS = all_but() + ["x", ["x"], {"x": True}, ("y", "x"), AHEAD]

    def test_the_first_that_applies(self):
        for other in (BEHIND, BEHIND.keeping(("a",)), large((("put", "a"),) * 7)):
            check_errors(self, lambda one, two, private: witness(one, two, private=private), [
                (AHEAD, self.STRETCHES, InvalidStretch), (other, self.STRETCHES, InvalidStretch),
                ((), self.SETS, InvalidOperation)])
            for value in (LOOK, None, 1, ()):
                check_errors(self, lambda one, two, private: is_witness(one, two, value, private=private), [
                    (AHEAD, self.STRETCHES, InvalidStretch), (other, self.STRETCHES, InvalidStretch),
                    ((), self.SETS, InvalidOperation)])

    def test_kept_registers_that_are_not_equal(self):
        over = large((("put", "a"),) * 7)
        for one, other in ((AHEAD, BEHIND.keeping(("a",))), (over, AHEAD.keeping(("a",))),
                (AHEAD.keeping(("a",)), over)):
            with self.assertRaises(InvalidOperation):
                witness(one, other)
            for value in (LOOK, None, ()):
                with self.assertRaises(InvalidOperation):
                    is_witness(one, other, value)

    def test_stretches_that_are_not_taken(self):
        put = ("put", "a")
        wide = large(tuple(("read", "a", cell) for cell in "uvwxy"))
        for over in (large((READ,) * 25), large((put,) * 7), wide, large((("set", "a", "f", ("a",)),) * 7),
                large((choice("p", "a"),) * 4)):
            for one, other in ((over, EMPTY), (EMPTY, over), (over, over), (AHEAD, over)):
                with self.assertRaises(InvalidStretch):
                    witness(one, other)
                self.assertIs(is_witness(one, other, Surrounding((), (), {}, {})), False)
        shown = Surrounding((("get", "m"), SHOW) * 7, (), {}, {})
        self.assertIs(is_witness(large((put,) * 7), Stretch((put,) * 6), shown), True)
        many = kept_five()
        self.assertEqual(len(many.keeps), 5)
        with self.assertRaises(InvalidStretch):
            witness(many, many)


def kept_five():
    """A stretch that keeps more registers than can be passed, as a piece of a program can."""
    from orderlymoves.live.pieces import piece
    program = Program((tuple(("show", name) for name in "abcde"),))
    return piece(program, 0, 0, 0)


if __name__ == "__main__":
    unittest.main()
