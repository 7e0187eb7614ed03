"""A desk: changes, rules, what is taken back and done again, blocks and twins."""

import random
import types
import unittest

from orderlymoves.base.stretches import Stretch
from orderlymoves.errors import (
    InvalidNumber, InvalidOperation, InvalidProgram, InvalidStretch, NothingToUndo, Refused, TooMany, UnknownName)
from orderlymoves.live import desk as module
from orderlymoves.live.desk import Desk
from orderlymoves.live.pieces import exchanged, piece
from orderlymoves.play.programs import Program
from orderlymoves.play.states import is_orderly, outcome
from samples import all_but, all_but_numbers, check_errors, large, nested, some_change, some_code, some_program

READ = ("read", "a", "x")
WRITE = ("write", "x", "a")
PUT = ("put", "a")
SHOW = ("show", "a")
LOOK = (("get", "c"), ("read", "d", "x"), ("show", "d"))
TWO = Program(((READ, ("write", "x", "b"), WRITE, PUT), LOOK))
BEHIND = Stretch((PUT, WRITE))
AHEAD = Stretch((WRITE, PUT))
EMPTY = Stretch(())
ONCE = Stretch((READ,))
TWICE = Stretch((READ, READ))


def state(desk):
    """All that a desk tells of itself, with the changes that can be taken back and done again."""
    back = forth = 0
    twin = desk.twin()
    while can(twin.undo):
        back += 1
    twin = desk.twin()
    while can(twin.redo):
        forth += 1
    return desk.program, desk.first, desk.shown, desk.rules, list(desk), str(desk), back, forth


def can(call):
    try:
        call()
    except NothingToUndo:
        return False
    return True


class Failure(Exception):
    """An error of a test's own."""


class Interface(unittest.TestCase):
    def test_all_is_defined_in_the_class_itself(self):
        self.assertEqual((Desk.__module__, module.Desk), ("orderlymoves.live.desk", Desk))
        for name in ("program", "first", "shown", "rules"):
            self.assertIsInstance(vars(Desk)[name], property)
        for name in ("__init__", "exchange", "learn", "forget", "can_apply", "apply", "places", "__getitem__",
            "__contains__",
                     "__iter__", "__len__", "__eq__", "__str__", "undo", "redo", "attempt", "during", "twin"):
            self.assertIn(name, vars(Desk))

    def test_keywords(self):
        desk = Desk(TWO)
        for call in (lambda: desk.learn("up", BEHIND, AHEAD, ()), lambda: desk.undo(0), lambda: desk.redo(0)):
            with self.assertRaises(TypeError):
                call()

    def test_properties_cannot_be_set(self):
        desk = Desk(TWO)
        for name in ("program", "first", "shown", "rules"):
            with self.assertRaises(AttributeError):
                setattr(desk, name, None)


class Desks(unittest.TestCase):
    def test_a_new_one(self):
        desk = Desk(TWO)
        self.assertEqual((desk.program, desk.first, desk.shown, desk.rules), (TWO, TWO, ((), ("x.1",)), {}))
        self.assertEqual((len(desk), list(desk), str(desk)), (0, [], "desk of 2 threads, 7 statements, 0 rules"))

    def test_the_document(self):
        desk = Desk(TWO)
        self.assertEqual(
            [desk.learn("up", BEHIND, AHEAD), desk.exchange(0, 0, 3, Stretch((READ,))), desk.shown, str(desk)],
            [None, None, ((), ("x.1",)), "desk of 2 threads, 5 statements, 1 rules"])
        self.assertEqual(
            [desk.can_apply("up", 0, 0), list(desk.places("up")), desk.undo(), len(desk.program.threads[0]),
             desk.redo(), desk.first == TWO],
            [False, [], 1, 4, 2, True])

    def test_what_is_no_orderly_program(self):
        for value in all_but(Program) + [TWO.threads, Desk(TWO)]:
            with self.subTest(value=value), self.assertRaises(InvalidProgram):
                Desk(value)
        with self.assertRaises(InvalidOperation):
            Desk(Program(((WRITE,), (READ,))))
        shows = (SHOW,) * 20
        for threads in ((shows,) * 3, ((WRITE,) + shows, (WRITE,) + shows, shows)):
            with self.assertRaises(TooMany) as caught:
                Desk(Program(threads))
            self.assertEqual(caught.exception.limit, 4000)

    def test_equality(self):
        desk, other = Desk(TWO), Desk(TWO)
        self.assertTrue(desk == other and not desk != other)
        desk.learn("up", BEHIND, AHEAD)
        self.assertFalse(desk == other)
        other.learn("up", BEHIND, AHEAD, private=("y",))
        self.assertFalse(desk == other)
        other.forget("up")
        other.learn("up", BEHIND, AHEAD)
        # The changes that led there do not count.
        self.assertTrue(desk == other)
        desk.exchange(0, 0, 3, ONCE)
        self.assertTrue(desk != other)
        self.assertFalse(Desk(desk.program) == Desk(TWO))
        third = Desk(desk.program)
        third.learn("up", BEHIND, AHEAD)
        self.assertEqual((third.program, third.rules), (desk.program, desk.rules))
        self.assertFalse(third == desk)
        for value in all_but() + [TWO, TWO.threads]:
            self.assertIs(desk == value, False)
            self.assertIs(desk != value, True)

    def test_text(self):
        program = Program(((("if", "p", "a", (PUT,), (PUT, PUT)), SHOW), (), (SHOW,)))
        desk = Desk(program)
        self.assertEqual(str(desk), "desk of 3 threads, 6 statements, 0 rules")
        desk.learn("a", EMPTY, EMPTY)
        desk.learn("b", EMPTY, EMPTY)
        self.assertEqual(str(desk), "desk of 3 threads, 6 statements, 2 rules")


class Rules(unittest.TestCase):
    def test_learned_and_forgotten(self):
        desk = Desk(TWO)
        for name, *stretches, private in (("up", BEHIND, AHEAD, ()), ("any", AHEAD, BEHIND, ("x",)),
                ("none", EMPTY, EMPTY, ("y", "z"))):
            self.assertIsNone(desk.learn(name, *stretches, private=private))
        told = {"any": (AHEAD, BEHIND, ("x",)), "none": (EMPTY, EMPTY, ("y", "z")), "up": (BEHIND, AHEAD, ())}
        self.assertEqual((desk.rules, list(desk.rules), list(desk), len(desk)), (told, sorted(told), sorted(told), 3))
        self.assertEqual([desk[name] for name in sorted(told)], list(told.values()))
        self.assertIsNone(desk.forget("none"))
        self.assertEqual((list(desk), "none" in desk, "up" in desk), (["any", "up"], False, True))
        desk.learn("none", ONCE, EMPTY)
        self.assertEqual(desk["none"], (ONCE, EMPTY, ()))

    def test_the_dict_is_new_each_time(self):
        desk = Desk(TWO)
        desk.learn("up", BEHIND, AHEAD)
        desk.rules.clear()
        found = desk.rules
        desk.forget("up")
        self.assertEqual((found, desk.rules), ({"up": (BEHIND, AHEAD, ())}, {}))

    def test_iterating_goes_over_the_names_as_they_are_when_it_begins(self):
        desk = Desk(TWO)
        for name in ("b", "a", "c"):
            desk.learn(name, EMPTY, EMPTY)
        names = iter(desk)
        desk.forget("a")
        desk.learn("d", EMPTY, EMPTY)
        self.assertEqual(list(names), ["a", "b", "c"])
        met = []
        for name in desk:
            met.append(name)
            desk.forget(name)
        self.assertEqual((met, list(desk)), (["b", "c", "d"], []))

    def test_in(self):
        desk = Desk(TWO)
        desk.learn("up", BEHIND, AHEAD)
        for value in all_but() + ["x", [], {}, ("up",), ["up"], TWO]:
            self.assertIs(value in desk, False)
            with self.assertRaises(UnknownName) as caught:
                desk[value]
            if isinstance(value, (int, str)):
                self.assertEqual(repr(caught.exception.name), repr(value))
        self.assertIs("up" in desk, True)

    def test_refused(self):
        desk = Desk(TWO)
        for one, other, private, reason in ((AHEAD, BEHIND, (), ("content", "x", 0)), (EMPTY, ONCE, (), ("bare", 0)),
                                            (EMPTY, AHEAD, ("x",), ("letter", 0)),
                                            (EMPTY, Stretch((WRITE,)), ("x",), ("content", "x", 0))):
            with self.assertRaises(Refused) as caught:
                desk.learn("up", one, other, private=private)
            self.assertEqual(caught.exception.reason, reason)
        self.assertEqual(state(desk), state(Desk(TWO)))

    def test_errors_of_learning(self):
        desk = Desk(TWO)
        desk.learn("up", BEHIND, AHEAD)
        before = state(desk)
        names = all_but() + ["up", ("a",)]
        stretches = all_but(Stretch) + [(), (PUT,)]
        sets = all_but() + ["x", ["x"], ("y", "x"), AHEAD]
        for one, other in ((BEHIND, AHEAD), (AHEAD, BEHIND), (AHEAD, BEHIND.keeping(("a",)))):
            check_errors(self, lambda name, one, other, private: desk.learn(name, one, other, private=private), [
                ("new", names, InvalidOperation), (one, stretches, InvalidStretch), (other, stretches, InvalidStretch),
                ((), sets, InvalidOperation)])
        for one, other in ((AHEAD, BEHIND.keeping(("a",))), (ONCE.keeping(("a",)), EMPTY)):
            with self.assertRaises(InvalidOperation):
                desk.learn("new", one, other)
        self.assertEqual(state(desk), before)

    def test_unknown_names(self):
        desk = Desk(TWO)
        desk.learn("up", BEHIND, AHEAD)
        before = state(desk)
        for value in all_but() + ["x", "upp", "u", [], {}, ("up",), nested("up", 11)]:
            for call in (desk.forget, lambda name: desk.can_apply(name, 9, 9), lambda name: desk.apply(name, 9, 9),
                         lambda name: next(desk.places(name)), lambda name: desk[name]):
                with self.assertRaises(UnknownName):
                    call(value)
        for name in ("x", ["up"], 1):
            with self.assertRaises(UnknownName) as caught:
                desk.forget(name)
            self.assertEqual(caught.exception.name, name)
        self.assertEqual(state(desk), before)


class Applying(unittest.TestCase):
    def applied(self, program, name, thread, start):
        desk = learned(Desk(program))
        self.assertIs(desk.can_apply(name, thread, start), True)
        self.assertIn((thread, start), list(desk.places(name)))
        self.assertIsNone(desk.apply(name, thread, start))
        self.assertEqual((desk.shown, outcome(desk.program)), (outcome(program),) * 2)
        return desk.program.threads[thread]

    def test_applied(self):
        self.assertEqual(self.applied(Program((BEHIND.code, ())), "up", 0, 0), AHEAD.code)
        self.assertEqual(self.applied(Program(((), (SHOW,) + BEHIND.code + (PUT,))), "up", 1, 1),
            (SHOW,) + AHEAD.code + (PUT,))
        self.assertEqual(self.applied(Program(((READ, READ, READ),)), "once", 0, 1), (READ, READ))
        self.assertEqual(self.applied(Program(((READ, READ, SHOW),)), "once", 0, 0), (READ, SHOW))

    def test_at_the_end_of_a_thread(self):
        program = Program(((PUT, READ), (("get", "c"),)))
        self.assertEqual(self.applied(program, "drop", 0, 1), (PUT,))
        self.assertEqual(self.applied(program, "none", 0, 2), program.threads[0])
        self.assertEqual(self.applied(program, "look", 0, 2), program.threads[0] + (("read", "b", "y"),))
        self.assertEqual(self.applied(Program(((),)), "look", 0, 0), (("read", "b", "y"),))

    def test_the_code_has_to_stand_there(self):
        desk = learned(Desk(Program(((PUT, WRITE, PUT, ("write", "y", "a"), PUT), (SHOW,)))))
        self.assertEqual(list(desk.places("up")), [(0, 0)])
        for start in range(1, 6):
            self.assertIs(desk.can_apply("up", 0, start), False)
        self.assertEqual([desk.can_apply("up", 1, start) for start in (0, 1)], [False, False])
        inner = learned(Desk(Program(((("if", "p", "a", BEHIND.code, ()),),))))
        self.assertEqual(list(inner.places("up")), [])

    def test_the_kept_registers(self):
        for behind, right in (((), True), ((SHOW,), False), ((("get", "a"), SHOW), True),
                ((("if", "p", "t", (SHOW,), ()),), False)):
            desk = learned(Desk(Program(((READ,) + behind,))))
            self.assertIs(desk.can_apply("drop", 0, 0), right, behind)
            self.assertIs((0, 0) in list(desk.places("drop")), right)
        # A register that is not in the piece has to be kept, too.
        desk = learned(Desk(Program(((READ, READ, ("show", "z")),))))
        self.assertIs(desk.can_apply("once", 0, 0), False)
        self.assertIs(learned(Desk(Program(((READ, READ, SHOW),)))).can_apply("once", 0, 0), True)

    def test_the_private_cells(self):
        look = (("read", "c", "y"),)
        for others_code, right in (((), True), ((SHOW,), True), (look, False), ((("if", "p", "a", (), look),), False)):
            for threads in (((PUT,), others_code), ((PUT,), (), others_code)):
                desk = learned(Desk(Program(threads)))
                self.assertIs(desk.can_apply("look", 0, 0), right)
                self.assertEqual((0, 1) in list(desk.places("look")), right)
        told = learned(Desk(Program(((PUT,) + look, ()), cells={"y": "a"})))
        self.assertEqual([place for place in told.places("look") if place[0] == 0], [(0, 0), (0, 1), (0, 2)])

    def test_places(self):
        desk = learned(Desk(Program(((READ, READ, READ), (READ,), (READ, READ)))))
        self.assertEqual(list(desk.places("once")), [(0, 0), (0, 1), (2, 0)])
        self.assertEqual(list(desk.places("none")),
            [(0, at) for at in range(4)] + [(1, 0), (1, 1)] + [(2, at) for at in range(3)])
        self.assertIsInstance(desk.places("once"), types.GeneratorType)

    def test_errors(self):
        desk = learned(Desk(TWO))
        before = state(desk)
        threads = all_but_numbers(0, 1) + [2, -1]
        starts = all_but_numbers(0, 1, 2, 3, 4) + [5, -1]
        for call in (desk.can_apply, desk.apply):
            check_errors(self, call, [("up", ["x", None, [], 1, ("up",)], UnknownName), (0, threads, InvalidNumber),
                (0, starts, InvalidNumber)])
            with self.assertRaises(InvalidNumber) as caught:
                call("up", 1, 4)
            self.assertEqual(caught.exception.value, 4)
        for start in range(5):
            with self.assertRaises(InvalidOperation):
                desk.apply("up", 0, start)
        self.assertEqual(state(desk), before)
        with self.assertRaises(UnknownName):
            next(desk.places("x"))

    def test_programs_that_get_too_great(self):
        desk = learned(Desk(Program(((READ,) * 60,))))
        desk.learn("more", ONCE, TWICE)
        before = state(desk)
        self.assertIs(desk.can_apply("more", 0, 0), True)
        with self.assertRaises(InvalidProgram):
            desk.apply("more", 0, 0)
        self.assertEqual(state(desk), before)
        desk.apply("once", 0, 0)
        desk.apply("more", 0, 58)
        self.assertEqual(len(desk.program.threads[0]), 60)

    def test_never_against_the_promise(self):
        rng = random.Random(81)
        met = 0
        for _ in range(150):
            program = some_program(rng, rng.randint(1, 3), 5)
            if not is_orderly(program):
                continue
            desk = Desk(program)
            for number in range(6):
                self.learn_some(rng, desk, "abcdef"[number])
            for name in desk:
                for thread, start in list(desk.places(name)):
                    if not desk.can_apply(name, thread, start):
                        continue
                    desk.apply(name, thread, start)
                    met += 1
                    self.assertEqual((outcome(desk.program), desk.shown), (outcome(program),) * 2)
        self.assertGreater(met, 80)

    def learn_some(self, rng, desk, name):
        thread = rng.randrange(len(desk.program))
        start = rng.randint(0, len(desk.program.threads[thread]))
        try:
            one = piece(desk.program, thread, start, min(start + rng.randint(0, 2), len(desk.program.threads[thread])))
            desk.learn(name, one, large(some_change(rng, one.code), one.keeps),
                private=rng.choice(((), ("x",), ("x", "y"))))
        except (Refused, InvalidOperation):
            pass


def learned(desk):
    """The desk with some rules."""
    desk.learn("up", BEHIND.keeping(("a",)), AHEAD.keeping(("a",)))
    desk.learn("once", TWICE.keeping(("a",)), ONCE.keeping(("a",)))
    desk.learn("drop", ONCE, EMPTY)
    desk.learn("none", EMPTY.keeping(("a", "c", "d")), EMPTY.keeping(("a", "c", "d")))
    desk.learn("look", EMPTY.keeping(("a",)), Stretch((("read", "b", "y"),), ("a",)), private=("y",))
    return desk


class Exchanging(unittest.TestCase):
    def test_exchange(self):
        desk = Desk(TWO)
        self.assertIsNone(desk.exchange(0, 0, 3, ONCE))
        self.assertEqual((desk.program, desk.first), (exchanged(TWO, 0, 0, 3, ONCE), TWO))
        desk.exchange(0, 0, 2, Stretch((READ, READ, PUT)))
        self.assertEqual(desk.program.threads[0], (READ, READ, PUT))

    def test_errors(self):
        desk = learned(Desk(TWO))
        before = state(desk)
        numbers = all_but_numbers(0, 1, 2, 3, 4) + [-1, 5]
        check_errors(self, desk.exchange, [
            (0, numbers + [2], InvalidNumber), (1, numbers, InvalidNumber), (1, numbers + [0], InvalidNumber),
            (EMPTY, all_but(Stretch), InvalidStretch)])
        for arguments, error in (((1, 0, 3, EMPTY), InvalidOperation), ((0, 2, 4, BEHIND), Refused),
                                 ((0, 0, 1, large((READ,) * 60)), InvalidProgram)):
            with self.assertRaises(error):
                desk.exchange(*arguments)
        self.assertEqual(state(desk), before)

    def test_histories(self):
        rng = random.Random(82)
        done = 0
        for at in range(80):
            program = some_program(rng, (1, 2, 3)[at % 3], 4)
            if not is_orderly(program):
                continue
            desk = Desk(program)
            for _ in range(6):
                thread = rng.randrange(len(program))
                code = desk.program.threads[thread]
                start = rng.randint(0, len(code))
                end = rng.randint(start, len(code))
                changed = some_change(rng, code[start:end]) if show_free(code[start:end]) else ()
                other = large(rng.choice((changed, some_code(rng, 1))))
                try:
                    desk.exchange(thread, start, end, other)
                except (Refused, InvalidOperation):
                    continue
                done += 1
                if sum(map(len, desk.program.threads)) < 20:
                    self.assertEqual(outcome(desk.program), desk.shown)
            self.assertEqual((desk.first, desk.shown), (program, outcome(program)))
        self.assertGreater(done, 50)


def show_free(code):
    return "show" not in str(code)


class TakingBack(unittest.TestCase):
    def changed(self):
        """A desk with four changes, and its state behind each number of changes."""
        desk = Desk(TWO)
        steps = [(desk.program, desk.rules)]
        for change in (
            lambda: desk.learn("up", BEHIND, AHEAD),
            lambda: desk.exchange(0, 0, 3, ONCE),
            lambda: desk.learn("more", ONCE.keeping(("a",)), TWICE.keeping(("a",))),
            lambda: desk.apply("more", 0, 0),
        ):
            change()
            steps.append((desk.program, desk.rules))
        return desk, steps

    def test_undo_and_redo(self):
        desk, steps = self.changed()
        for left in (3, 2, 1, 0):
            self.assertEqual(desk.undo(), left)
            self.assertEqual((desk.program, desk.rules), steps[left])
        for left in (1, 2, 3, 4):
            self.assertEqual(desk.redo(), left)
            self.assertEqual((desk.program, desk.rules), steps[left])
        self.assertEqual((desk.first, desk.shown), (TWO, ((), ("x.1",))))

    def test_many(self):
        for back in range(5):
            for forth in range(back + 1):
                desk, steps = self.changed()
                self.assertEqual(desk.undo(many=back), 4 - back)
                self.assertEqual((desk.program, desk.rules), steps[4 - back])
                self.assertEqual(desk.redo(many=forth), 4 - back + forth)
                self.assertEqual((desk.program, desk.rules), steps[4 - back + forth])

    def test_too_many(self):
        desk, steps = self.changed()
        desk.undo()
        for call, wrong in ((desk.undo, (4, 5, 10 ** 12, 10 ** 40 - 1)), (desk.redo, (2, 3, 10 ** 12))):
            for many in wrong:
                with self.assertRaises(NothingToUndo) as caught:
                    call(many=many)
                self.assertEqual(caught.exception.many, many)
        self.assertEqual((desk.program, desk.undo(many=0), desk.redo(many=0)), (steps[3][0], 3, 3))
        self.assertEqual(desk.redo(), 4)
        new = Desk(TWO)
        for call in (new.undo, new.redo):
            self.assertEqual(call(many=0), 0)
            with self.assertRaises(NothingToUndo) as caught:
                call()
            self.assertEqual(caught.exception.many, 1)

    def test_what_is_no_number(self):
        desk, steps = self.changed()
        desk.undo()
        before = state(desk)
        wrong = [value for value in all_but_numbers(0, 1, 2, 7) if not (type(value) is int and value > 0)]
        for value in wrong:
            for call in (desk.undo, desk.redo):
                with self.assertRaises(InvalidNumber) as caught:
                    call(many=value)
                self.assertEqual(repr(caught.exception.value)[:9], repr(value)[:9])
        self.assertEqual(state(desk), before)

    def test_another_change_ends_what_can_be_done_again(self):
        for change in (
            lambda desk: desk.learn("new", EMPTY, EMPTY),
            lambda desk: desk.forget("up"),
            lambda desk: desk.exchange(0, 0, 0, EMPTY),
            lambda desk: desk.apply("again", 0, 0),
        ):
            desk, steps = self.changed()
            desk.undo(many=3)
            desk.learn("again", EMPTY.keeping(("a", "b", "c")), EMPTY.keeping(("a", "b", "c")))
            desk.undo()
            self.assertEqual(desk.redo(), 2)
            change(desk)
            with self.assertRaises(NothingToUndo):
                desk.redo()
            self.assertEqual((desk.undo(many=3), desk.redo(many=3)), (0, 3))

    def test_what_fails_does_not(self):
        desk, steps = self.changed()
        desk.undo(many=2)
        for call in (
            lambda: desk.learn("up", EMPTY, EMPTY), lambda: desk.forget("no"), lambda: desk.exchange(0, 0, 9, EMPTY),
            lambda: desk.apply("up", 0, 1), lambda: desk.undo(many=3), lambda: desk.redo(many=3),
            lambda: desk["no"], lambda: desk.learn("down", AHEAD, BEHIND), lambda: desk.exchange(0, 1, 2, BEHIND),
        ):
            with self.assertRaises((ValueError, LookupError, RuntimeError, ArithmeticError)):
                call()
        self.assertEqual((desk.redo(many=2), desk.program), (4, steps[4][0]))

    def test_changes_by_which_all_stays_equal(self):
        desk = Desk(TWO)
        desk.exchange(0, 0, 0, EMPTY)
        desk.exchange(0, 0, 4, piece(TWO, 0, 0, 4))
        self.assertEqual((desk.program, desk == Desk(TWO), desk.undo(), desk.undo()), (TWO, True, 1, 0))


class Blocks(unittest.TestCase):
    def ready(self):
        """A desk with two changes to take back and one to do again."""
        desk = learned(Desk(TWO))
        desk.exchange(0, 0, 3, ONCE)
        desk.undo()
        return desk

    def changes(self, desk):
        desk.exchange(0, 0, 3, TWICE)
        desk.learn("new", EMPTY, EMPTY)
        desk.forget("up")
        desk.undo()
        desk.undo(many=3)
        desk.redo()

    def test_as_it_was(self):
        desk = self.ready()
        before = state(desk)
        with desk.attempt() as same:
            self.assertIs(same, desk)
            self.changes(desk)
            self.assertNotEqual(state(desk), before)
        self.assertEqual(state(desk), before)
        self.assertEqual(desk.redo(), 6)
        self.assertEqual(desk.program.threads[0], (READ, PUT))

    def test_with_changes_taken_back_and_done_again(self):
        for change in (
            lambda desk: desk.undo(), lambda desk: desk.undo(many=5), lambda desk: desk.redo(), lambda desk: None,
            lambda desk: (desk.undo(many=5), desk.learn("new", EMPTY, EMPTY)),
            lambda desk: (desk.redo(), desk.undo(many=6)),
        ):
            desk = self.ready()
            before = state(desk)
            with desk.attempt():
                change(desk)
            self.assertEqual(state(desk), before)

    def test_left_by_an_error(self):
        desk = self.ready()
        before = state(desk)
        for error in (Failure, Refused, StopIteration, KeyboardInterrupt):
            with self.assertRaises(error):
                with desk.attempt() as same:
                    self.changes(same)
                    raise error(1)
            self.assertEqual(state(desk), before)
        with self.assertRaises(UnknownName):
            with desk.attempt():
                desk.forget("up")
                desk.forget("up")
        self.assertEqual(state(desk), before)

    def test_left_early(self):
        desk = self.ready()
        before = state(desk)
        for _ in range(3):
            with desk.attempt():
                self.changes(desk)
                break
        self.assertEqual(state(desk), before)

    def test_nested(self):
        desk = self.ready()
        before = state(desk)
        with desk.attempt() as outer:
            outer.exchange(0, 0, 3, ONCE)
            middle = state(desk)
            with desk.attempt() as inner:
                self.assertIs(inner, desk)
                inner.exchange(0, 0, 1, TWICE)
                with self.assertRaises(Failure):
                    with inner.attempt():
                        inner.undo(many=4)
                        raise Failure
                self.assertEqual(desk.program.threads[0], (READ, READ, PUT))
            self.assertEqual(state(desk), middle)
            desk.forget("up")
        self.assertEqual(state(desk), before)

    def test_as_it_was_when_the_block_was_entered(self):
        desk = self.ready()
        block = desk.attempt()
        desk.forget("up")
        before = state(desk)
        with block:
            self.changes_without_up(desk)
        self.assertEqual(state(desk), before)
        desk.learn("up", EMPTY, EMPTY)
        before = state(desk)
        with block:
            self.changes(desk)
        self.assertEqual(state(desk), before)

    def changes_without_up(self, desk):
        desk.exchange(0, 0, 3, TWICE)
        desk.undo(many=2)

    def test_during(self):
        desk = self.ready()
        before = state(desk)
        self.assertEqual(desk.during(lambda same: (same is desk, self.changes(same), len(same))), (True, None, 5))
        self.assertEqual(state(desk), before)
        for found in (None, 1, [desk], {"a": 1}):
            self.assertIs(desk.during(lambda same: found), found)
        with self.assertRaises(Failure):
            desk.during(self.fails)
        self.assertEqual(state(desk), before)
        inner = desk.during(lambda same: same.during(lambda also: (also.forget("up"), len(also))) + (len(same),))
        self.assertEqual(inner, (None, 4, 5))

    def fails(self, desk):
        self.changes(desk)
        raise Failure


class Twins(unittest.TestCase):
    def test_equal_and_independent(self):
        desk = learned(Desk(TWO))
        desk.exchange(0, 0, 3, ONCE)
        desk.undo()
        twin = desk.twin()
        self.assertIsInstance(twin, Desk)
        self.assertIsNot(twin, desk)
        self.assertEqual((twin == desk, state(twin)), (True, state(desk)))
        before = state(desk)
        self.assertEqual(twin.redo(), 6)
        twin.forget("up")
        self.assertEqual(state(desk), before)
        self.assertEqual((desk.redo(), "up" in desk, "up" in twin), (6, True, False))
        other = twin.twin()
        before = state(other)
        desk.undo(many=6)
        twin.undo(many=7)
        self.assertEqual(state(other), before)
        self.assertEqual((twin == desk, twin == Desk(TWO)), (True, True))

    def test_within_a_block(self):
        desk = learned(Desk(TWO))
        with desk.attempt():
            desk.forget("up")
            twin = desk.twin()
        self.assertEqual(("up" in desk, "up" in twin, twin.undo()), (True, False, 5))
        self.assertEqual(twin, desk)


if __name__ == "__main__":
    unittest.main()
