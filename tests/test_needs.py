"""Straight stretches: the reads that are needed, the writes that are due, and the least stretches."""

import itertools
import random
import unittest

from orderlymoves.base.stretches import Stretch
from orderlymoves.errors import InvalidOperation, InvalidStretch
from orderlymoves.judge.cases import cases
from orderlymoves.judge.changes import can_drop, drops, without
from orderlymoves.judge.stand import are_same, may_stand
from orderlymoves.lean import needs
from orderlymoves.lean.needs import due_writes, fewest, is_least, least, needed_reads
from orderlymoves.live.pieces import piece
from orderlymoves.play.programs import Program
from samples import CELLS, REGISTERS, all_but, check_errors, large, some_change, some_code, some_pairs

READ = ("read", "r", "x")
WRITE = ("write", "x", "a")
OTHER = ("write", "x", "b")
BACK = ("write", "x", "r")
PUT = ("put", "a")
GET = ("get", "g")
CALLS = (needed_reads, due_writes, fewest, least, is_least)
PRIVATE = ((), ("x",), ("y",), ("x", "y"), ("q",))


def counts(stretch):
    """The reads and the writes of each cell of a straight stretch."""
    return {cell: (sum(step[0] == "read" and step[2] == cell for step in stretch.code),
                   sum(step[:2] == ("write", cell) for step in stretch.code)) for cell in stretch.cells}


class Interface(unittest.TestCase):
    def test_all_is_defined_in_this_module(self):
        for name in ("needed_reads", "due_writes", "fewest", "least", "is_least"):
            self.assertEqual(getattr(needs, name).__module__, "orderlymoves.lean.needs")

    def test_private_is_passed_by_keyword(self):
        for call in CALLS:
            with self.assertRaises(TypeError):
                call(Stretch(()), ())


class Needs(unittest.TestCase):
    def found(self, code, reads, writes, keeps=(), private=()):
        stretch = large(code, keeps)
        self.assertEqual(needed_reads(stretch, private=private), reads, code)
        self.assertEqual(due_writes(stretch, private=private), writes, code)
        found = fewest(stretch, private=private)
        self.assertEqual(list(found), list(stretch.cells))
        for cell in stretch.cells:
            many = (sum(pair[0] == cell for pair in reads), sum(triple[0] == cell for triple in writes))
            self.assertEqual(found[cell], many)
        self.assertIs(is_least(stretch, private=private), counts(stretch) == found)
        self.assertEqual(fewest(least(stretch, private=private), private=private),
                         {cell: many for cell, many in found.items() if many != (0, 0)})

    def test_no_accesses(self):
        for code in ((), (PUT,), (GET, PUT), (("set", "a", "f", ("b",)), PUT)):
            self.found(code, (), ())
            self.assertEqual(least(Stretch(code)).cells, ())
            self.assertIs(is_least(Stretch(code)), True)

    def test_reads(self):
        self.found((READ,), (), ())
        self.found((READ,), (("x", 1),), (), ("r",))
        self.found((READ, ("put", "r")), (("x", 1),), ())
        self.found((READ, PUT), (), ())
        self.found((READ, READ, READ), (("x", 1),), (), ("r",))
        self.found((READ, PUT, GET, READ), (("x", 2),), (), ("r",))
        self.found((READ, ("put", "r"), GET, READ), (("x", 1), ("x", 2)), (), ("r",))
        self.found((READ, GET, PUT, READ), (("x", 1),), (), ("r",))
        self.found((WRITE, READ), (), (("x", 0, "a"),), ("r",))

    def test_writes(self):
        self.found((WRITE,), (), (("x", 0, "a"),))
        self.found((WRITE, OTHER), (), (("x", 0, "b"),))
        self.found((WRITE, PUT, OTHER), (), (("x", 1, "b"),))
        self.found((WRITE, PUT, GET, OTHER), (), (("x", 0, "a"), ("x", 2, "b")))
        self.found((WRITE, PUT, GET, OTHER, PUT, GET, WRITE), (), (("x", 0, "a"), ("x", 2, "b"), ("x", 4, "a")))
        self.found((GET, WRITE, GET, PUT, PUT), (), (("x", 2, "a"),))

    def test_a_content_that_is_written_back(self):
        self.found((READ, BACK), (), ())
        self.found((READ, WRITE, BACK), (), ())
        self.found((READ, WRITE, BACK), (("x", 1),), (), ("r",))
        self.found((READ, WRITE, PUT, BACK), (), ())
        self.found((READ, WRITE, PUT, GET, BACK), (("x", 1),), (("x", 0, "a"), ("x", 2, "x.1")))
        self.found((READ, PUT, GET, READ, BACK), (), ())
        self.found((READ, PUT, GET, BACK), (("x", 1),), (("x", 2, "x.1"),))
        self.found((READ, ("write", "y", "r")), (("x", 1),), (("y", 0, "x.1"),))

    def test_chains_of_writes_in_one_chain(self):
        # The read keeps all in one chain, but not the writes in one chain of writes.
        code = (WRITE, PUT, READ, GET, WRITE)
        self.found(code, (), (("x", 0, "a"),))
        self.found((WRITE, PUT, READ, GET, OTHER), (), (("x", 0, "a"), ("x", 2, "b")))
        self.found((READ, PUT, READ, GET, BACK), (), ())
        self.found((READ, WRITE, PUT, READ, GET, ("read", "s", "x"), BACK, ("put", "s")), (), (("x", 0, "a"),))

    def test_needs_through_functions(self):
        self.found((READ, ("set", "r", "f", ("r",))), (("x", 1),), (), ("r",))
        self.found((READ, ("set", "r", "f", ("a", "r")), ("set", "s", "g", ("r",)), ("put", "s")), (("x", 1),), ())
        self.found((READ, ("set", "r", "f", ("r",)), BACK), (("x", 1),), (("x", 0, "f(x.1)"),))
        self.found((READ, ("set", "r", "f", ("r",)), BACK, READ, ("set", "s", "f", ("a",))), (("x", 1),),
            (("x", 0, "f(x.1)"),))
        self.found((READ, ("set", "r", "f", ())), (), (), ("r",))
        self.found((READ, ("read", "s", "y"), ("set", "s", "f", ("r", "s")), ("put", "s")), (("x", 1), ("y", 1)), ())
        self.found((READ, ("copy", "s", "r"), ("set", "r", "f", ("s",)), ("copy", "r", "a")), (), (), ("r",))

    def test_unknowns_of_letters_are_none_of_cells(self):
        self.found((GET, ("put", "g")), (), (), ("g",))
        self.found((GET, ("write", "x", "g")), (), (("x", 1, "get.1"),), ("g",))

    def test_private_cells(self):
        self.found((WRITE, PUT, GET, OTHER), (), (("x", 2, "b"),), private=("x",))
        self.found((READ, PUT, GET, BACK), (), (), private=("x",))
        self.found((WRITE, PUT, GET, READ), (), (("x", 2, "a"),), ("r",), ("x",))
        self.found((READ, PUT, GET, READ), (("x", 1),), (), ("r",), ("x",))
        self.found((READ, ("write", "y", "r"), WRITE), (("x", 1),), (("x", 0, "a"), ("y", 0, "x.1")),
            private=("x", "y"))
        self.found((PUT,), (), (), private=("x", "y"))
        self.found((READ,), (), (), private=("x",))

    def test_numbers_ascend_as_numbers(self):
        code = (READ, ("put", "r"), GET) * 12 + (READ, ("put", "r"))
        self.found(code, tuple(("x", number) for number in range(1, 14)), ())

    def test_the_dict_is_new_each_time(self):
        stretch = Stretch((READ, WRITE))
        fewest(stretch).clear()
        self.assertEqual(fewest(stretch), {"x": (0, 1)})


class Least(unittest.TestCase):
    def check(self, stretch, private=()):
        found = least(stretch, private=private)
        self.assertIsInstance(found, Stretch)
        self.assertEqual((found.keeps, found.is_straight), (stretch.keeps, True))
        self.assertIs(may_stand(stretch, found, private=private), True)
        many = fewest(stretch, private=private)
        self.assertEqual({**dict.fromkeys(stretch.cells, (0, 0)), **counts(found)}, many)
        self.assertIs(is_least(found, private=private), True)
        self.assertEqual(least(stretch, private=private), found)
        return found

    def test_how_great_a_least_one_is(self):
        kept = (("read", "a", "x"), ("get", "b"), ("set", "c", "f", ("a", "b")), ("write", "y", "c"),
            ("read", "d", "z"))
        for keeps in ((), ("a",), ("a", "b", "c", "d")):
            stretch = Stretch(kept, keeps)
            self.assertIs(is_least(stretch), "d" in keeps)
            self.assertLessEqual(self.check(stretch).size, 5 + len(keeps))

    def test_small_ones(self):
        for code in ((), (READ,), (WRITE, OTHER), (READ, BACK), (READ, PUT, BACK), (WRITE, READ, ("put", "r"))):
            for private in ((), ("x",)):
                self.check(Stretch(code), private)
                self.check(Stretch(code, ("a", "r")), private)

    def test_registers_that_change_places(self):
        drop = (("read", "q", "y"),)
        for code in itertools.product([("copy", one, two) for one, two in itertools.permutations("abc", 2)], repeat=3):
            self.check(Stretch(code + drop, ("a", "b", "c")))
        swap = (("copy", "c", "a"), ("copy", "a", "b"), ("copy", "b", "c"))
        self.check(Stretch(swap, ("a", "b")))
        self.check(Stretch(swap + swap, ("a", "b", "c")))
        turn = (("copy", "d", "a"), ("copy", "a", "b"), ("copy", "b", "c"), ("copy", "c", "d"))
        self.check(Stretch(turn, ("a", "b", "c")))
        self.check(Stretch(turn + (READ, ("copy", "a", "r"), PUT), ("a", "b", "c", "d")))

    def test_values_of_the_beginning_that_are_needed_late(self):
        code = (("copy", "c", "a"), GET, ("get", "a"), ("put", "c"), READ, ("copy", "b", "r"), ("put", "b"))
        self.check(Stretch(code, ("a", "b")))

    def test_many_of_them(self):
        rng = random.Random(61)
        smaller = 0
        for _ in range(700):
            keeps = tuple(sorted(rng.sample(REGISTERS, rng.randint(0, 3))))
            stretch = large(some_code(rng, rng.randint(0, 12), 0), keeps)
            for private in PRIVATE:
                smaller += is_least(stretch, private=private) is False
                self.check(stretch, private)
        self.assertGreater(smaller, 1000)

    def test_stretches_that_functions_return(self):
        rng = random.Random(62)
        one = large(some_code(rng, 60, 0), ("a", "b"))
        for stretch in (one + one, one + one + one, large((("set", "a", "f", ("a",)),) * 100 + (PUT,), ("a",))):
            for private in PRIVATE[:3]:
                self.check(stretch, private)
        program = Program((some_code(rng, 30, 0) + tuple(("show", name) for name in REGISTERS + ("d", "e", "f")),))
        whole = piece(program, 0, 0, 30)
        self.assertEqual(len(whole.keeps), 6)
        self.check(whole)
        self.check(whole, ("x", "y"))

    def test_whatever_names_are_used(self):
        names = tuple("abcdefghijklmnopqrstuvwxyz")
        code = tuple(("read", name, "x") for name in names) + tuple(("put", name) for name in names)
        self.check(large(code))
        self.check(large(code, ("a", "z")), ("x",))


class Promises(unittest.TestCase):
    def test_what_may_stand_has_no_fewer(self):
        rng = random.Random(63)
        met = 0
        for one, other in some_pairs(64, 900):
            if not one.is_straight:
                continue
            if rng.random() < 0.5:
                other = large(some_change(rng, least(one).code), one.keeps)
            for private in ((), ("x",), ("x", "y")):
                many = fewest(one, private=private)
                found = list(cases(one, other, private=private))
                if any(case.fault is not None for case in found):
                    continue
                met += 1
                for case in found:
                    for cell in many:
                        for kind, few in zip(("read", "write"), many[cell]):
                            self.assertGreaterEqual(sum(access[:2] == (kind, cell) for access in case.accesses), few)
        self.assertGreater(met, 500)

    def test_needed_chains_and_due_places(self):
        for one, other in some_pairs(65, 400):
            if one.is_straight and may_stand(one, other):
                for case in cases(one, other):
                    kinds = [access[0] for access in case.accesses]
                    self.assertGreaterEqual(kinds.count("read"), len(needed_reads(one)))
                    self.assertGreaterEqual(kinds.count("write"), len(due_writes(one)))

    def test_two_that_are_the_same_have_the_same_fewest(self):
        met = 0
        for one, other in some_pairs(66, 900):
            for private in ((), ("x",)):
                if one.is_straight and other.is_straight and are_same(one, other, private=private):
                    met += one != other
                    few = [fewest(stretch, private=private) for stretch in (one, other)]
                    for cell in CELLS:
                        self.assertEqual(few[0].get(cell, (0, 0)), few[1].get(cell, (0, 0)))
        self.assertGreater(met, 50)

    def test_nothing_can_be_dropped_of_a_least_one(self):
        rng = random.Random(67)
        for _ in range(150):
            found = least(large(some_code(rng, rng.randint(0, 10), 0), ("a", "b")))
            accesses = [at for at, step in enumerate(found.code) if step[0] in ("read", "write")]
            self.assertFalse(any(can_drop(found, at) for at in accesses), found.code)

    def test_dropping_alone_does_not_always_lead_there(self):
        save = Stretch((READ, ("put", "r"), WRITE, PUT, BACK))
        self.assertEqual((fewest(save), is_least(save)), ({"x": (1, 0)}, False))
        self.assertEqual(drops(save), (2,))
        self.assertEqual(drops(without(save, 2)), (3,))
        self.assertIs(is_least(without(without(save, 2), 3)), True)

    def test_with_tests_there_need_not_be_one(self):
        stretch = Stretch((READ, ("if", "p", "r", (WRITE,), ())))
        for call in CALLS:
            with self.assertRaises(InvalidOperation):
                call(stretch)


class Errors(unittest.TestCase):
    STRETCHES = all_but(Stretch) + [(), (READ,)]
    SETS = all_but() + ["x", ["x"], ("y", "x"), Stretch(())]

    def test_the_first_that_applies(self):
        for stretch in (Stretch((READ,)), Stretch((("if", "p", "r", (), ()),))):
            for call in CALLS:
                check_errors(self, lambda one, private: call(one, private=private), [
                    (stretch, self.STRETCHES, InvalidStretch), ((), self.SETS, InvalidOperation)])

    def test_not_straight(self):
        for code in ((("if", "p", "r", (), ()),), (READ, ("if", "p", "r", (), ()), PUT)):
            for call in CALLS:
                with self.assertRaises(InvalidOperation):
                    call(Stretch(code))
                with self.assertRaises(InvalidOperation):
                    call(Stretch(code), private=("x",))


if __name__ == "__main__":
    unittest.main()
