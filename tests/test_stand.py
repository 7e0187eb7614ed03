"""What may stand for a stretch, and papers that show it."""

import itertools
import random
import unittest

from orderlymoves.base.stretches import Stretch
from orderlymoves.errors import InvalidOperation, InvalidStretch, MoveError
from orderlymoves.judge import stand
from orderlymoves.judge.cases import Case, cases
from orderlymoves.judge.stand import are_same, fault, is_stand_paper, may_stand, stand_paper
from orderlymoves.walk.cover import covered_places
from orderlymoves.walk.ways import follow
from samples import check_errors, large, nested, no_names, others, some_change, some_pairs, tuples

READ = ("read", "r", "x")
WRITE = ("write", "x", "a")
SEND = Stretch((("write", "x", "a"), ("put", "a"), ("write", "x", "b")))
LATE = Stretch((("put", "a"), ("write", "x", "b")))
WAIT = Stretch((("get", "r"), ("read", "s", "x")), ("r", "s"))
EARLY = Stretch((("read", "s", "x"), ("get", "r")), ("r", "s"))
BEHIND = Stretch((("put", "a"), ("write", "x", "a")))
AHEAD = Stretch((("write", "x", "a"), ("put", "a")))
THREE = Stretch((READ, READ, WRITE))
TEST = Stretch((READ, ("if", "p", "r", (WRITE,), (WRITE, WRITE))))
YES = ((("p", "x.1"), True),)
NO = ((("p", "x.1"), False),)


class Interface(unittest.TestCase):
    def test_all_is_defined_in_this_module(self):
        for name in ("may_stand", "are_same", "fault", "stand_paper", "is_stand_paper"):
            self.assertEqual(getattr(stand, name).__module__, "orderlymoves.judge.stand")

    def test_private_is_passed_by_keyword(self):
        for call in (may_stand, are_same, fault, stand_paper):
            with self.assertRaises(TypeError):
                call(SEND, LATE, ())
        with self.assertRaises(TypeError):
            is_stand_paper(SEND, LATE, {}, ())


class Standing(unittest.TestCase):
    def test_may_stand(self):
        for one, other, forth, back in (
            (SEND, LATE, True, True), (WAIT, EARLY, False, True), (AHEAD, BEHIND, False, True),
            (SEND, SEND, True, True), (Stretch(()), Stretch(()), True, True),
            (Stretch((READ,)), Stretch(()), True, False), (Stretch((READ, READ)), Stretch((READ,)), True, True),
            (Stretch((WRITE,)), Stretch((WRITE, READ)), True, True), (Stretch((WRITE,)), Stretch((READ,)), False, False),
            # A write of the value that a cell has anyway can be left out, and not be put in.
            (Stretch((READ, ("write", "x", "r"))), Stretch((READ,)), True, False),
        ):
            self.assertIs(may_stand(one, other), forth)
            self.assertIs(may_stand(other, one), back)
            self.assertIs(are_same(one, other), forth and back)
            self.assertIs(are_same(other, one), forth and back)

    def test_with_private_cells(self):
        self.assertIs(may_stand(WAIT, EARLY, private=("x",)), True)
        self.assertIs(are_same(WAIT, EARLY, private=("x",)), True)
        self.assertIs(may_stand(WAIT, EARLY, private=("y",)), False)
        self.assertIs(may_stand(AHEAD, BEHIND, private=("x",)), True)
        self.assertIs(may_stand(Stretch(()), Stretch((WRITE,)), private=("x",)), False)

    def test_covered_accesses_alone_are_not_enough(self):
        other = Stretch((("write", "x", "b"), ("put", "a"), ("write", "x", "b")))
        self.assertIs(may_stand(SEND, other), True)
        self.assertIs(may_stand(AHEAD, Stretch((("write", "x", "b"), ("put", "a")))), False)

    def test_a_read_cannot_be_put_in_anywhere(self):
        self.assertIs(may_stand(Stretch((("get", "r"),)), Stretch((("get", "r"), READ))), False)
        self.assertIs(may_stand(LATE, Stretch(((("read", "c", "x"),) + LATE.code))), True)

    def test_moving_a_read_up_over_a_put_and_over_a_get(self):
        put, get = ("put", "a"), ("get", "a")
        self.assertIs(may_stand(Stretch((put, READ)), Stretch((READ, put))), True)
        self.assertIs(may_stand(Stretch((get, READ)), Stretch((READ, get))), False)
        self.assertIs(may_stand(Stretch((READ, put)), Stretch((put, READ))), False)
        self.assertIs(may_stand(Stretch((READ, get)), Stretch((get, READ))), True)

    def test_fault(self):
        found = fault(WAIT, EARLY)
        self.assertIsInstance(found, Case)
        self.assertEqual((found, found.fault), (next(cases(WAIT, EARLY)), ("bare", 0)))
        self.assertIsNone(fault(SEND, LATE))
        self.assertIsNone(fault(WAIT, EARLY, private=("x",)))
        self.assertEqual(fault(Stretch(()), Stretch((WRITE,)), private=("x",)).way.private, ("x",))

    def test_fault_is_the_first_one(self):
        one = Stretch((("if", "p", "a", (), (READ,)), ("if", "q", "a", (READ,), ())), ("r",))
        other = Stretch((READ,), ("r",))
        found = [case for case in cases(one, other) if case.fault is not None]
        self.assertEqual(fault(one, other), found[0])
        self.assertEqual(fault(one, other).answers, {("p", "a"): True, ("q", "a"): False})
        self.assertEqual(fault(other, one).answers, {("p", "a"): True, ("q", "a"): False})


class Promises(unittest.TestCase):
    PRIVATE = ((), ("x",), ("y",), ("x", "y"), ("x", "y", "z"))

    def test_exactly_if_no_case_has_a_fault(self):
        stood = 0
        for one, other in some_pairs(6, 400):
            for private in self.PRIVATE:
                found = [case for case in cases(one, other, private=private) if case.fault is not None]
                self.assertIs(may_stand(one, other, private=private), not found)
                self.assertEqual(fault(one, other, private=private), found[0] if found else None)
                stood += not found
                both = not found and may_stand(other, one, private=private)
                self.assertIs(are_same(one, other, private=private), both)
        self.assertTrue(300 < stood < 1700, stood)

    def test_more_private_cells(self):
        for one, other in some_pairs(7, 400):
            found = {private: may_stand(one, other, private=private) for private in self.PRIVATE}
            for fewer, more in itertools.product(self.PRIVATE, repeat=2):
                if set(fewer) <= set(more):
                    self.assertLessEqual(found[fewer], found[more])

    def test_each_may_stand_for_the_other(self):
        same = 0
        for one, other in some_pairs(8, 500):
            for private in ((), ("x",)):
                agreed = all(self.agree(case, other, private) for case in cases(one, other, private=private))
                self.assertIs(are_same(one, other, private=private), agreed)
                same += agreed
        self.assertGreater(same, 100)

    def agree(self, case, other, private):
        """Whether letters, contents and kept registers agree in a case, and both ways cover the same places."""
        way = follow(other, case.answers, private=private) if case.fault is None else None
        return way is not None and all(
            covered_places(way, kind, cell) == covered_places(case.way, kind, cell)
            for kind in ("read", "write") for cell in {"x", "y"} - set(private))

    def test_what_may_stand_for_what_may_stand(self):
        rng = random.Random(9)
        met = 0
        for one, other in some_pairs(10, 600):
            third = large(some_change(rng, other.code), other.keeps)
            if may_stand(one, other) and may_stand(other, third):
                met += third != one
                self.assertIs(may_stand(one, third), True)
        self.assertGreater(met, 60)

    def test_one_behind_the_other(self):
        met = 0
        for (one, other), (third, fourth) in zip(some_pairs(11, 500), some_pairs(12, 500)):
            one, other = [stretch.keeping(("a", "b", "c")) for stretch in (one, other)]
            if may_stand(one, other) and may_stand(third, fourth):
                met += 1
                self.assertIs(may_stand(one + third, other + fourth), True)
        self.assertGreater(met, 40)


class Papers(unittest.TestCase):
    def test_papers(self):
        self.assertEqual(stand_paper(EARLY, WAIT), {(): (0,)})
        self.assertIsNone(stand_paper(WAIT, EARLY))
        self.assertEqual(stand_paper(WAIT, EARLY, private=("x",)), {(): (-1,)})
        self.assertEqual(stand_paper(Stretch(()), Stretch(())), {(): ()})
        self.assertEqual(list(stand_paper(TEST, TEST)), [NO, YES])

    def test_keys_ascend(self):
        code = tuple(("if", test, name, (), ()) for test, name in (("q", "a"), ("p", "c"), ("p", "b")))
        found = list(stand_paper(Stretch(code), Stretch(code)))
        self.assertEqual((len(found), found), (8, sorted(found)))
        for key in found:
            self.assertEqual(key, tuple(sorted(key)))

    def test_papers_are_right_and_new_each_time(self):
        papers = 0
        for one, other in some_pairs(13, 300):
            for private in ((), ("y",), ("x", "y")):
                paper = stand_paper(one, other, private=private)
                self.assertIs(paper is not None, may_stand(one, other, private=private))
                if paper is None:
                    self.assertIs(is_stand_paper(one, other, {}, private=private), False)
                    continue
                papers += 1
                self.assertEqual(list(paper), sorted(paper))
                self.assertIs(is_stand_paper(one, other, paper, private=private), True)
                again = stand_paper(one, other, private=private)
                self.assertEqual(paper, again)
                paper.clear()
                self.assertIs(is_stand_paper(one, other, again, private=private), True)
        self.assertGreater(papers, 200)

    def test_all_right_papers_and_no_others(self):
        # The way has reads 0 and 1 and the write 2; reads can be covered by each, the write by itself alone.
        for row in itertools.product(range(-2, 4), repeat=3):
            self.assertIs(is_stand_paper(THREE, THREE, {(): row}), row[2] == 2 and {*row[:2]} <= {0, 1, 2}, row)
            self.assertIs(is_stand_paper(THREE, THREE, {(): row}, private=("x",)), row == (-1, -1, -1), row)
            self.assertIs(is_stand_paper(THREE, THREE, {(): row}, private=("y",)), row[2] == 2 and {*row[:2]} <= {0, 1, 2})

    def test_an_access_that_covers_none(self):
        self.assertIs(is_stand_paper(SEND, LATE, {(): (1,)}), True)
        self.assertIs(is_stand_paper(SEND, LATE, {(): (0,)}), False)
        self.assertIs(is_stand_paper(SEND, SEND, {(): (0, 1)}), True)
        self.assertIs(is_stand_paper(SEND, SEND, {(): (1, 0)}), False)

    def test_private_cells_beside_others(self):
        one = Stretch((READ, ("read", "s", "y")))
        for private, right in (((), (0, 1)), (("x",), (-1, 1)), (("y",), (0, -1)), (("x", "y"), (-1, -1))):
            for row in itertools.product((-1, 0, 1), repeat=2):
                self.assertIs(is_stand_paper(one, one, {(): row}, private=private), row == right, (private, row))
            self.assertEqual(stand_paper(one, one, private=private), {(): right})

    def test_rows_of_another_length_or_kind(self):
        for row in ((), (0, 0), (0, 0, 2, 0), (0, 0, 2, -1), (0, 0, 2, None), [0, 0, 2], None, 0, "002", {0: 0, 1: 0, 2: 2},
                    ((0, 0, 2),), (0, 0, (2,)), (0, 0, [2]), (0, 0, None), (0, 0, "2"), (0, 0, THREE), (0, 0, {})):
            self.assertIs(is_stand_paper(THREE, THREE, {(): row}), False, row)
        self.assertIs(is_stand_paper(Stretch(()), Stretch(()), {(): ()}), True)
        for row in ([], None, (0,), (-1,), "", {}):
            self.assertIs(is_stand_paper(Stretch(()), Stretch(()), {(): row}), False, row)

    def test_booleans_are_no_indices(self):
        self.assertIs(is_stand_paper(THREE, THREE, {(): (0, 1, 2)}), True)
        for row in ((False, 1, 2), (0, True, 2), (False, True, 2)):
            self.assertIs(is_stand_paper(THREE, THREE, {(): row}), False, row)

    def test_keys_are_just_those_of_the_cases(self):
        right = {YES: (0, 1), NO: (0, 1, 2)}
        self.assertIs(is_stand_paper(TEST, TEST, right), True)
        self.assertIs(is_stand_paper(TEST, TEST, {NO: (1, 2, 1), YES: (1, 1)}), True)
        for wrong in (
            {}, {YES: (0, 1)}, {NO: (0, 1, 2)}, {**right, (): ()}, {**right, (*YES, *NO): (0, 1)}, {(): (0, 1)},
            {YES: (0, 1), NO: (0, 1)}, {YES: (0, 1, 2), NO: (0, 1, 2)}, {YES: (0, 1, 2), NO: (0, 1)},
            {YES: (0, 1), ((("p", "x.1"), None),): (0, 1, 2)}, {YES: (0, 1), ((("p", "x.2"), False),): (0, 1, 2)},
            {YES: (0, 1), ((("q", "x.1"), False),): (0, 1, 2)}, {YES: (0, 1), (("p", "x.1"), False): (0, 1, 2)},
            {YES: (0, 1), (("p", "x.1", False),): (0, 1, 2)}, {YES: (0, 1), NO + ((("p", "x.2"), True),): (0, 1, 2)},
            {YES: (0, 1), NO[0]: (0, 1, 2)}, {**right, 1: ()}, {**right, MoveError("a"): (0, 1)},
        ):
            self.assertIs(is_stand_paper(TEST, TEST, wrong), False, wrong)

    def test_numbers_are_no_answers(self):
        one, zero = ((("p", "x.1"), 1),), ((("p", "x.1"), 0),)
        self.assertEqual({YES: 1}, {one: 1})
        for wrong in ({one: (0, 1), NO: (0, 1, 2)}, {YES: (0, 1), zero: (0, 1, 2)}, {one: (0, 1), zero: (0, 1, 2)}):
            self.assertIs(is_stand_paper(TEST, TEST, wrong), False, wrong)

    def test_keys_have_their_pairs_in_order(self):
        code = (("if", "q", "a", (), ()), ("if", "p", "a", (), ()))
        two = Stretch(code)
        right = {tuple(sorted(((("q", "a"), yes), (("p", "a"), also)))): () for yes in (True, False) for also in (True, False)}
        self.assertIs(is_stand_paper(two, two, right), True)
        self.assertIs(is_stand_paper(two, two, {key[::-1]: () for key in right}), False)
        first, *rest = right
        self.assertIs(is_stand_paper(two, two, {first[::-1]: (), **{key: () for key in rest}}), False)
        self.assertIs(is_stand_paper(two, two, {first[::-1]: (), **right}), False)

    def test_no_paper_is_right_if_a_case_has_a_fault(self):
        for paper in ({}, {(): ()}, {(): (0,)}, {(): (-1,)}):
            self.assertIs(is_stand_paper(WAIT, EARLY, paper), False)
        other = Stretch((READ, ("if", "p", "r", (WRITE,), (("read", "r", "y"),))))
        self.assertIs(is_stand_paper(TEST, other, {YES: (0, 1), NO: (0,)}), False)
        self.assertIs(is_stand_paper(TEST, other, {YES: (0, 1)}), False)

    def test_every_other_value(self):
        for value in others() + tuples() + no_names() + [None, (), [], "()", ((), (0,)), (0,), {(): nested(0, 10)},
                                                         {nested_tuple(11): (0,)}, [{(): (0,)}], ({(): (0,)},)]:
            self.assertIs(is_stand_paper(EARLY, WAIT, value), False, value)
            self.assertIs(is_stand_paper(WAIT, EARLY, value), False, value)
        for row in others() + tuples() + no_names():
            self.assertIs(is_stand_paper(EARLY, WAIT, {(): row}), False, row)
            self.assertIs(is_stand_paper(EARLY, WAIT, {(): (row,)}), row == 0 and row is not False, row)
        for key in [value for value in others() if isinstance(value, (int, str, type(None)))] + no_names():
            self.assertIs(is_stand_paper(EARLY, WAIT, {key: (0,)}), False, key)
            self.assertIs(is_stand_paper(EARLY, WAIT, {(): (0,), key: (0,)}), False, key)

    def test_the_paper_that_is_judged_is_not_changed(self):
        paper = {YES: (0, 1), NO: (0, 1, 2)}
        is_stand_paper(TEST, TEST, paper)
        self.assertEqual(list(paper.items()), [(YES, (0, 1)), (NO, (0, 1, 2))])


def nested_tuple(deep):
    value = ()
    for _ in range(deep):
        value = (value,)
    return value


class Errors(unittest.TestCase):
    STRETCHES = [value for value in others() if not isinstance(value, Stretch)] + tuples() + no_names() + [
        (), (("put", "a"),), follow(SEND, {}), next(cases(SEND, SEND))]
    PRIVATE = others() + tuples() + no_names() + ["x", ["x"], {"x": True}, ("y", "x"), SEND]

    def test_the_first_that_applies(self):
        for call in (may_stand, are_same, fault, stand_paper):
            for other in (LATE, LATE.keeping(("a",))):
                check_errors(self, lambda one, two, private: call(one, two, private=private), [
                    (SEND, self.STRETCHES, InvalidStretch),
                    (other, self.STRETCHES, InvalidStretch),
                    ((), self.PRIVATE, InvalidOperation),
                ])

    def test_judging_papers(self):
        for paper in ({(): (1,)}, {}, None, "a", [Stretch(())], {1: 2}):
            for other in (LATE, LATE.keeping(("a",))):
                check_errors(self, lambda one, two, private: is_stand_paper(one, two, paper, private=private), [
                    (SEND, self.STRETCHES, InvalidStretch),
                    (other, self.STRETCHES, InvalidStretch),
                    ((), self.PRIVATE, InvalidOperation),
                ])

    def test_kept_registers_that_are_not_equal(self):
        for keeps in (("a",), ("a", "b"), ("r", "s", "t")):
            for call in (may_stand, are_same, fault, stand_paper):
                with self.assertRaises(InvalidOperation):
                    call(WAIT, EARLY.keeping(keeps))
                with self.assertRaises(InvalidOperation):
                    call(EARLY.keeping(keeps), WAIT, private=("x",))
            for paper in ({(): (0,)}, {}, None, 1):
                with self.assertRaises(InvalidOperation):
                    is_stand_paper(WAIT, EARLY.keeping(keeps), paper)


if __name__ == "__main__":
    unittest.main()
