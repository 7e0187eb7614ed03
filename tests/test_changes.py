"""Single changes of a stretch: dropped, doubled and moved statements."""

import random
import types
import unittest

from orderlymoves.base.statements import flattened
from orderlymoves.base.stretches import Stretch
from orderlymoves.errors import InvalidNumber, InvalidOperation, InvalidStretch
from orderlymoves.judge import changes
from orderlymoves.judge.changes import can_double, can_drop, can_move, doubled, drops, moved, moves, without
from orderlymoves.judge.stand import may_stand
from samples import REGISTERS, all_but, all_but_numbers, check_errors, large, some_code

BEHIND = Stretch((("put", "a"), ("write", "x", "a")))
AHEAD = Stretch((("write", "x", "a"), ("put", "a")))
TWICE = Stretch((("read", "a", "x"), ("get", "b"), ("read", "c", "x"), ("put", "c")))
PUTS = tuple(("put", name) for name in "abcdefg")
A, B, C, D, E, F, G = PUTS


def choice(yes=(), no=()):
    return ("if", "p", "r", yes, no)


# The indices are 0: A, 1: the if, 2: B, 3: the inner if, 4: C, 5: D, 6: E, 7: F, 8: G.
DEEP = Stretch((A, choice((B, choice((C,), (D,))), (E, F)), G), ("a",))


class Interface(unittest.TestCase):
    def test_all_is_defined_in_this_module(self):
        for name in ("without", "doubled", "moved", "can_drop", "can_double", "can_move", "drops", "moves"):
            self.assertEqual(getattr(changes, name).__module__, "orderlymoves.judge.changes")

    def test_moves_is_a_generator(self):
        self.assertIsInstance(moves(TWICE), types.GeneratorType)

    def test_private_is_passed_by_keyword(self):
        for call, arguments in ((can_drop, (0,)), (can_double, (0,)), (can_move, (0, 1)), (drops, ()), (moves, ())):
            with self.assertRaises(TypeError):
                list(call(TWICE, *arguments, ()))


class Changed(unittest.TestCase):
    def codes(self, change, *rows):
        for *arguments, code in rows:
            found = change(DEEP, *arguments)
            self.assertIsInstance(found, Stretch)
            self.assertEqual((found.code, found.keeps), (code, ("a",)), arguments)

    def test_without(self):
        self.codes(
            without, (0, DEEP.code[1:]), (1, (A, G)), (2, (A, choice((choice((C,), (D,)),), (E, F)), G)),
            (3, (A, choice((B,), (E, F)), G)), (4, (A, choice((B, choice((), (D,))), (E, F)), G)),
            (5, (A, choice((B, choice((C,), ())), (E, F)), G)), (6, (A, choice((B, choice((C,), (D,))), (F,)), G)),
            (7, (A, choice((B, choice((C,), (D,))), (E,)), G)), (8, DEEP.code[:2]))

    def test_doubled(self):
        inner = choice((C,), (D,))
        self.codes(
            doubled, (0, (A,) + DEEP.code), (1, (A, DEEP[1], DEEP[1], G)), (2, (A, choice((B, B, inner), (E, F)), G)),
            (3, (A, choice((B, inner, inner), (E, F)), G)), (4, (A, choice((B, choice((C, C), (D,))), (E, F)), G)),
            (5, (A, choice((B, choice((C,), (D, D))), (E, F)), G)), (6, (A, choice((B, inner), (E, E, F)), G)),
            (7, (A, choice((B, inner), (E, F, F)), G)), (8, DEEP.code + (G,)))

    def test_moved(self):
        inner = choice((C,), (D,))
        self.codes(
            moved, (0, 1, (DEEP[1], A, G)), (0, 2, (DEEP[1], G, A)), (1, -1, (DEEP[1], A, G)), (1, 1, (A, G, DEEP[1])),
            (8, -1, (A, G, DEEP[1])), (8, -2, (G, A, DEEP[1])), (2, 1, (A, choice((inner, B), (E, F)), G)),
            (3, -1, (A, choice((inner, B), (E, F)), G)), (6, 1, (A, choice((B, inner), (F, E)), G)),
            (7, -1, (A, choice((B, inner), (F, E)), G)))
        self.assertEqual(moved(TWICE, 0, 3), Stretch(TWICE.code[1:] + TWICE.code[:1]))
        row = Stretch(PUTS[:6])
        for at in range(6):
            for to in range(6):
                if at != to:
                    names = list(PUTS[:6])
                    names.insert(to, names.pop(at))
                    self.assertEqual(moved(row, at, to - at).code, tuple(names))

    def test_the_only_statement(self):
        one = Stretch((A,), ("a",))
        self.assertEqual((without(one, 0), doubled(one, 0).code), (Stretch((), ("a",)), (A, A)))
        one = Stretch((choice((A,), (B,)),))
        self.assertEqual((without(one, 1).code, without(one, 2).code), ((choice((), (B,)),), (choice((A,), ()),)))
        self.assertEqual(without(one, 0).code, ())

    def test_changed_stretches_can_be_greater(self):
        full = Stretch((("put", "a"),) * 6 + (("read", "a", "x"),) * 18)
        more = doubled(full, 0)
        self.assertEqual((more.size, len(doubled(more, 24))), (25, 26))
        self.assertIs(can_double(more, 24), True)
        self.assertIs(can_double(full, 0), False)
        self.assertEqual(drops(more), tuple(range(7, 25)))

    def test_the_stretch_stays(self):
        code = DEEP.code
        for call, arguments in ((without, (3,)), (doubled, (3,)), (moved, (3, -1))):
            self.assertEqual(call(DEEP, *arguments), call(DEEP, *arguments))
            self.assertIs(DEEP.code, code)


class Numbers(unittest.TestCase):
    def test_no_index(self):
        calls = [lambda one, at: moved(one, at, 1), lambda one, at: can_move(one, at, 1)]
        for call in [without, doubled, can_drop, can_double] + calls:
            for stretch, wrong in ((DEEP, (-1, 9, 10, 10 ** 12)), (Stretch(()), (0, 1, -1)), (BEHIND, (2, -1, -2))):
                for index in wrong:
                    with self.assertRaises(InvalidNumber) as caught:
                        call(stretch, index)
                    self.assertEqual(caught.exception.value, index)

    def test_moves_beyond_the_code(self):
        rooms = {0: (0, 2), 1: (1, 1), 8: (2, 0), 2: (0, 1), 3: (1, 0), 4: (0, 0), 5: (0, 0), 6: (0, 1), 7: (1, 0)}
        for index, (before, behind) in rooms.items():
            for by in range(-5, 6):
                if by != 0 and -before <= by <= behind:
                    self.assertEqual(moved(DEEP, index, by).size, DEEP.size)
                    continue
                for call in (moved, can_move):
                    with self.assertRaises(InvalidNumber) as caught:
                        call(DEEP, index, by)
                    self.assertEqual(caught.exception.value, by)


class Standing(unittest.TestCase):
    def test_the_document(self):
        self.assertEqual([can_move(BEHIND, 1, -1), can_move(AHEAD, 0, 1), can_drop(AHEAD, 0)], [True, False, False])
        self.assertEqual(drops(TWICE), (0,))
        self.assertEqual(list(moves(TWICE)), [(0, 1), (0, 2), (1, -1), (1, 1), (2, -2), (2, -1)])

    def test_with_private_cells(self):
        self.assertEqual((can_move(AHEAD, 0, 1), can_move(AHEAD, 0, 1, private=("x",))), (False, True))
        self.assertEqual((list(moves(AHEAD)), list(moves(AHEAD, private=("x",)))), ([], [(0, 1), (1, -1)]))
        code = Stretch((("write", "x", "a"), ("put", "a"), ("get", "b"), ("write", "x", "a")))
        self.assertEqual((drops(code), drops(code, private=("x",)), drops(code, private=("y",))), ((), (0, 3), ()))
        self.assertIs(can_double(Stretch((("write", "x", "a"),)), 0, private=("x",)), True)

    def test_equal_writes(self):
        # Each of two equal writes can be dropped, but not both.
        both = Stretch((("write", "x", "a"), ("write", "x", "a")))
        self.assertEqual(drops(both), (0, 1))
        self.assertEqual((drops(without(both, 0)), drops(without(both, 1))), ((), ()))
        self.assertIs(may_stand(both, Stretch(())), False)

    def test_nothing_to_drop_or_move(self):
        self.assertEqual((drops(Stretch(())), list(moves(Stretch(())))), ((), []))
        self.assertEqual(list(moves(Stretch((A,)))), [])
        self.assertEqual(drops(Stretch((("read", "a", "x"),))), (0,))
        self.assertEqual(drops(Stretch((("read", "a", "x"),), ("a",))), ())

    def test_each_is_as_may_stand_says(self):
        rng = random.Random(51)
        found = dict.fromkeys((call, right) for call in ("drop", "double", "move") for right in (True, False))
        for _ in range(150):
            keeps = tuple(sorted(rng.sample(REGISTERS, rng.randint(0, 2))))
            one = large(some_code(rng, rng.randint(0, 5)), keeps)
            private = rng.choice(((), ("x",), ("x", "y")))
            dropped, pairs = [], []
            for index in range(one.size):
                right = may_stand(one, without(one, index), private=private)
                self.assertIs(can_drop(one, index, private=private), right)
                dropped += [index] * right
                found["drop", right] = True
                right = may_stand(one, doubled(one, index), private=private)
                self.assertIs(can_double(one, index, private=private), right)
                found["double", right] = True
                for by in range(-one.size, one.size):
                    try:
                        other = moved(one, index, by)
                    except InvalidNumber:
                        continue
                    right = may_stand(one, other, private=private)
                    self.assertIs(can_move(one, index, by, private=private), right)
                    pairs += [(index, by)] * right
                    found["move", right] = True
            self.assertEqual(drops(one, private=private), tuple(dropped))
            self.assertEqual(list(moves(one, private=private)), pairs)
        self.assertNotIn(None, found.values())


class Promises(unittest.TestCase):
    ACCESSES = tuple(("read", name, cell) for name in "ab" for cell in "xy") + tuple(
        ("write", cell, name) for name in "ab" for cell in "xy")

    def test_neighbours_that_can_be_exchanged(self):
        rng = random.Random(52)
        for one in self.ACCESSES:
            for other in self.ACCESSES:
                free = one[0] == other[0] == "read" or cell_of(one) != cell_of(other)
                if not free or is_hindered(one, other):
                    continue
                for _ in range(3):
                    code = some_code(rng, rng.randint(0, 3)) + (one, other) + some_code(rng, rng.randint(0, 3))
                    stretch = large(code, ("a", "b"))
                    at = [k for k in range(len(code) - 1) if code[k:k + 2] == (one, other)][0]
                    index = sum(len(flattened((statement,))) for statement in code[:at])
                    self.assertIs(can_move(stretch, index, 1), True)

    def test_accesses_up_over_a_put_and_down_over_a_get(self):
        rng = random.Random(53)
        for access in self.ACCESSES:
            for name in "ab":
                ahead, behind = some_code(rng, rng.randint(0, 3), 0), some_code(rng, rng.randint(0, 3), 0)
                if set_by(access) != name:
                    stretch = large(ahead + (("put", name), access) + behind, ("a", "b"))
                    self.assertIs(can_move(stretch, len(ahead), 1), True)
                if name not in access[1:]:
                    stretch = large(ahead + (access, ("get", name)) + behind, ("a", "b"))
                    self.assertIs(can_move(stretch, len(ahead), 1), True)

    def test_letters_keep_their_turns(self):
        for one in (("put", "a"), ("get", "c")):
            for other in (("put", "b"), ("get", "d")):
                stretch = Stretch((one, other), ("c", "d"))
                self.assertIs(can_move(stretch, 0, 1), False)

    def test_two_changes_one_after_the_other(self):
        rng = random.Random(54)
        met = 0
        for _ in range(150):
            one = large(some_code(rng, rng.randint(1, 5)), ("a",))
            for index in drops(one):
                two = without(one, index)
                for also in drops(two):
                    met += 1
                    self.assertIs(may_stand(one, without(two, also)), True)
                for pair in list(moves(two))[:3]:
                    self.assertIs(may_stand(one, moved(two, *pair)), True)
        self.assertGreater(met, 30)


def cell_of(access):
    return access[2] if access[0] == "read" else access[1]


def set_by(access):
    return access[1] if access[0] == "read" else None


def is_hindered(one, other):
    """Whether one of two accesses sets a register that the other one uses or sets."""
    names = [access[1] if access[0] == "read" else access[2] for access in (one, other)]
    return names[0] == names[1] and "read" in (one[0], other[0])


class Errors(unittest.TestCase):
    STRETCHES = all_but(Stretch) + [(), (A,)]
    INDICES = all_but_numbers(0, 1, 2, 7) + [9, -1]
    BYS = all_but_numbers(1, 2, -1) + [0, 3]
    SETS = all_but() + ["x", ["x"], ("y", "x"), TWICE]

    def test_the_first_that_applies(self):
        stretch, index = (DEEP, self.STRETCHES, InvalidStretch), (0, self.INDICES, InvalidNumber)
        by, private = (1, self.BYS, InvalidNumber), ((), self.SETS, InvalidOperation)
        check_errors(self, without, [stretch, index])
        check_errors(self, doubled, [stretch, index])
        check_errors(self, moved, [stretch, index, by])
        for call in (can_drop, can_double):
            check_errors(self, lambda one, at, hidden: call(one, at, private=hidden), [stretch, index, private])
        check_errors(self, lambda *told: can_move(*told[:3], private=told[3]), [stretch, index, by, private])
        check_errors(self, lambda one, hidden: drops(one, private=hidden), [stretch, private])
        check_errors(self, lambda one, hidden: next(moves(one, private=hidden)), [stretch, private])

    def test_a_generator_raises_its_errors_when_its_first_value_is_asked_for(self):
        for found, error in ((moves(None), InvalidStretch), (moves(DEEP, private=1), InvalidOperation)):
            with self.assertRaises(error):
                next(found)

    def test_private_cells_are_looked_at_if_there_is_nothing_to_change(self):
        with self.assertRaises(InvalidOperation):
            next(moves(Stretch(()), private="x"))
        with self.assertRaises(InvalidOperation):
            drops(Stretch(()), private="x")

    def test_which_number_is_kept(self):
        for index, by, kept in ((9, 0, 9), (0, 0, 0), (0, 3, 3), (None, None, None), (True, 1, True), (1, -2, -2)):
            with self.assertRaises(InvalidNumber) as caught:
                can_move(DEEP, index, by, private=None)
            self.assertEqual(repr(caught.exception.value), repr(kept))


if __name__ == "__main__":
    unittest.main()
