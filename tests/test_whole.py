"""What the document promises over whole programs, with two and three threads, and over all modules."""

import random
import unittest

from orderlymoves.base.statements import used_first
from orderlymoves.base.stretches import Stretch, is_bounded
from orderlymoves.errors import TooMany
from orderlymoves.judge.changes import drops, moves
from orderlymoves.judge.stand import fault, may_stand
from orderlymoves.judge.witness import is_witness, surrounded, witness
from orderlymoves.lean.needs import due_writes, fewest, least, needed_reads
from orderlymoves.live.desk import Desk
from orderlymoves.live.pieces import exchanged
from orderlymoves.play.programs import Program
from orderlymoves.play.states import ends, is_orderly, outcome, states
from orderlymoves.text.formats import read_program, read_stretch, write_program, write_stretch
from orderlymoves.walk.ways import ways
from samples import CELLS, REGISTERS, large, some_change, some_code, some_pairs
from test_main_promise import some_code_behind, some_partner

READ = ("read", "r", "x")
WRITE = ("write", "x", "a")
PRIVATE = ((), (), ("x",), ("y",), ("x", "y"))


def shown_by(program):
    """The rows that an orderly program shows, None if it is not orderly or has too many states."""
    try:
        return outcome(program) if is_orderly(program) else None
    except TooMany:
        return None


def free_of(code, cells):
    """The code without the accesses to some cells; it has no ifs."""
    return tuple(step for step in code if not set(step[1:]) & set(cells) or step[0] not in ("read", "write"))


def some_surroundings(rng, one, private):
    """Code ahead of a stretch, code behind it, other threads, and answers."""
    way = rng.choice(list(ways(one, private=private)))
    cells = [cell for cell in CELLS if cell not in private]
    ahead = some_code(rng, rng.choice((0, 0, 1, 2)), 0)
    behind = some_code_behind(rng, one)
    threads = [some_partner(rng, way, cells)]
    if rng.random() < 0.5:
        threads.append(free_of(some_code(rng, rng.randint(0, 3), 0), private))
    answers = {(test, value): rng.random() < 0.5 for test in "pq" for value in ("a", "b", "c", "x.1", "ay", "nz")}
    return ahead, behind, rng.sample(threads, len(threads)), {**answers, **way.answers}


class Standing(unittest.TestCase):
    def test_no_orderly_program_sees_what_may_stand(self):
        rng = random.Random(101)
        met = {1: 0, 2: 0}
        for at, (one, other) in enumerate(some_pairs(102, 700)):
            private = PRIVATE[at % 5]
            if one == other or not may_stand(one, other, private=private):
                continue
            for _ in range(5):
                ahead, behind, threads, answers = some_surroundings(rng, one, private)
                self.assertLessEqual(set(used_first(behind)) & {*one.registers, *other.registers}, set(one.keeps))
                place = rng.randint(0, len(threads))
                first, second = (self.program(ahead + stretch.code + behind, threads, place,
                    answers) for stretch in (one, other))
                shown = shown_by(first)
                if shown is not None:
                    met[len(threads)] += 1
                    self.assertEqual(shown_by(second), shown)
        self.assertGreater(met[1], 150)
        self.assertGreater(met[2], 100)

    def program(self, code, threads, place, answers):
        return Program(tuple(threads[:place]) + (code,) + tuple(threads[place:]), answers=answers)

    def test_one_further_thread_is_enough(self):
        # What three threads see of a rewriting, two see as well: there is a witness.
        rng = random.Random(103)
        seen = 0
        for one, other in some_pairs(104, 400):
            for _ in range(6):
                ahead, behind, threads, answers = some_surroundings(rng, one, ())
                if len(threads) == 1:
                    continue
                programs = [Program((stretch.code + behind, *threads), answers=answers) for stretch in (one, other)]
                shown = shown_by(programs[0])
                if shown is not None and shown_by(programs[1]) != shown:
                    seen += 1
                    self.assertIs(may_stand(one, other), False)
                    self.assertIs(is_witness(one, other, witness(one, other)), True)
                    break
        self.assertGreater(seen, 60)

    def test_witnesses_are_seen_in_programs_of_three_threads_too(self):
        for one, other in some_pairs(105, 120):
            found = witness(one, other) if is_bounded(one.code) and is_bounded(other.code) else None
            if found is None:
                continue
            two = surrounded(one, found)
            # A thread that does nothing stands behind the stretch's, and passes each letter on.
            many = sum(step[0] == "put" for step in two.threads[1])
            between = (("get", "m"), ("put", "m")) * many
            first, second = (Program((surrounded(stretch, found).threads + (between,)), cells=two.cells,
                answers=two.answers)
                             for stretch in (one, other))
            shown = shown_by(first)
            if shown is not None:
                self.assertNotEqual(shown_by(second), shown)

    def test_behind_one_another(self):
        rng = random.Random(106)
        met = 0
        for (one, other), (third, fourth) in zip(some_pairs(107, 600), some_pairs(108, 600)):
            one, other = (stretch.keeping(("a", "b", "c")) for stretch in (one, other))
            if may_stand(one, other) and may_stand(third, fourth):
                ahead, behind, threads, answers = some_surroundings(rng, third, ())
                codes = [first.code + second.code + behind for first, second in ((one, third), (other, fourth))]
                shown = shown_by(Program((codes[0], *threads), answers=answers))
                if shown is not None:
                    met += 1
                    self.assertEqual(shown_by(Program((codes[1], *threads), answers=answers)), shown)
        self.assertGreater(met, 30)

    def test_as_often_as_one_likes(self):
        rng = random.Random(109)
        met = 0
        for one, other in some_pairs(110, 600):
            if one == other or not is_bounded(one.code + one.code) or not is_bounded(other.code + other.code):
                continue
            if not may_stand(one.keeping(("a", "b", "c")), other.keeping(("a", "b", "c"))):
                continue
            between = some_code(rng, rng.randint(0, 2), 0)
            for codes in ((one.code + between + one.code, between), (one.code, between, one.code + (("show", "a"),))):
                program = made = Program(codes)
                if shown_by(program) is None:
                    continue
                for thread in range(len(program)):
                    start = 0
                    while start + len(one) <= len(made.threads[thread]):
                        if made.threads[thread][start:start + len(one)] == one.code:
                            made = exchanged(made, thread, start, start + len(one), other)
                            start += len(other)
                        start += 1
                met += made != program
                self.assertEqual(shown_by(made), shown_by(program))
        self.assertGreater(met, 40)


class Untrue(unittest.TestCase):
    """What the document says is not true."""

    def refused(self, one, other, keeps=()):
        one, other = Stretch(one, keeps), Stretch(other, keeps)
        self.assertIs(may_stand(one, other), False)
        self.assertIs(is_witness(one, other, witness(one, other)), True)

    def test_a_read_whose_value_is_not_used_can_be_put_in_anywhere(self):
        for one in ((), (("put", "a"),), (("get", "g"),), (("get", "g"), ("put", "a"))):
            for at in range(len(one) + 1):
                self.refused(one, one[:at] + (READ,) + one[at:])
        self.refused((READ, ("put", "a")), (READ, ("put", "a"), READ))

    def test_moving_a_read_up_over_a_get_is_as_harmless_as_over_a_put(self):
        self.refused((("get", "g"), READ), (READ, ("get", "g")))
        self.assertIs(may_stand(Stretch((("put", "g"), READ)), Stretch((READ, ("put", "g")))), True)

    def test_a_write_of_the_value_that_a_cell_has_anyway_can_be_put_in(self):
        self.refused((READ,), (READ, ("write", "x", "r")))
        self.refused((READ,), (READ, ("write", "x", "r")), ("r",))

    def test_covered_accesses_are_enough(self):
        self.refused((WRITE, ("put", "a")), (("write", "x", "b"), ("put", "a")))
        self.refused((WRITE,), ())

    def test_what_may_stand_is_the_same(self):
        self.assertIs(may_stand(Stretch((READ,)), Stretch(())), True)
        self.refused((), (READ,))

    def test_three_threads_see_what_two_do_not(self):
        one, other = Stretch((("put", "a"), WRITE)), Stretch((WRITE, ("put", "a")))
        self.assertIsNone(witness(one, other))
        rng = random.Random(111)
        met = 0
        for _ in range(400):
            threads = tuple(some_code(rng, rng.randint(0, 3), 0) + (("show", rng.choice(REGISTERS)),) for _ in range(2))
            shown = shown_by(Program((one.code, *threads)))
            if shown is not None:
                met += 1
                self.assertEqual(shown_by(Program((other.code, *threads))), shown)
        self.assertGreater(met, 50)


class Names(unittest.TestCase):
    """Names are without meaning beyond being equal or not."""

    CELLS = {"x": "b", "y": "a"}
    REGISTERS = {"a": "yes", "b": "x", "c": "cell"}

    def renamed(self, stretch):
        cells = {cell: self.CELLS[cell] for cell in stretch.cells}
        registers = {name: self.REGISTERS[name] for name in stretch.registers}
        return stretch.renamed(cells=cells, registers=registers)

    def test_pairs_of_stretches(self):
        for one, other in some_pairs(112, 300):
            new = [self.renamed(stretch) for stretch in (one, other)]
            for private in ((), ("x",)):
                hidden = tuple(sorted(self.CELLS[cell] for cell in private))
                self.assertIs(may_stand(*new, private=hidden), may_stand(one, other, private=private))
                self.assertEqual(drops(new[0], private=hidden), drops(one, private=private))
                self.assertEqual(list(moves(new[0], private=hidden)), list(moves(one, private=private)))
            if not one.keeps:
                self.assertIs(fault(*new) is None, fault(one, other) is None)

    def test_needs(self):
        rng = random.Random(113)
        for _ in range(150):
            one = large(some_code(rng, rng.randint(0, 8), 0), ("a", "b"))
            new = self.renamed(one)
            self.assertEqual(needed_reads(new),
                tuple(sorted((self.CELLS[cell], number) for cell, number in needed_reads(one))))
            self.assertEqual(sorted(triple[1] for triple in due_writes(new)),
                sorted(triple[1] for triple in due_writes(one)))
            self.assertEqual(fewest(new), {self.CELLS[cell]: many for cell, many in fewest(one).items()})
            self.assertIs(may_stand(new, self.renamed_least(one)), True)

    def renamed_least(self, one):
        found = least(one)
        others = {name: "q" + name for name in found.registers}
        others.update({name: self.REGISTERS[name] for name in REGISTERS if name in found.registers})
        return found.renamed(cells={cell: self.CELLS[cell] for cell in found.cells}, registers=others)

    def test_programs(self):
        rng = random.Random(114)
        for _ in range(100):
            codes = [large(some_code(rng, rng.randint(0, 3), 0)) for _ in range(2)]
            one = Program(tuple(stretch.code + (("show", "a"),) for stretch in codes))
            two = Program(tuple(self.renamed(stretch).code + (("show", "yes"),) for stretch in codes))
            self.assertEqual((states(one), is_orderly(one), len(ends(one))),
                (states(two), is_orderly(two), len(ends(two))))


class Together(unittest.TestCase):
    def test_a_desk_over_texts(self):
        program = read_program("thread\nread a x\nwrite x b\nwrite x a\nput a\nthread\nget c\nread d x\nshow d")
        desk = Desk(program)
        desk.exchange(0, 0, 3, read_stretch("keeps\nread a x"))
        self.assertEqual(write_program(desk.program), "thread\nread a x\nput a\nthread\nget c\nread d x\nshow d")
        self.assertEqual(desk.shown, outcome(desk.program))

    def test_changed_stretches_there_and_back(self):
        rng = random.Random(115)
        for one, other in some_pairs(116, 100):
            for stretch in (one, large(some_change(rng, other.code), other.keeps)):
                if is_bounded(stretch.code):
                    self.assertEqual(read_stretch(write_stretch(stretch)), stretch)

    def test_all_least_pieces_of_a_desk(self):
        rng = random.Random(117)
        met = 0
        for _ in range(80):
            threads = tuple(some_code(rng, rng.randint(0, 6), 0) + (("show", "a"),) for _ in range(2))
            if shown_by(Program(threads)) is None:
                continue
            desk = Desk(Program(threads))
            for thread in range(2):
                many = len(desk.program.threads[thread]) - 1
                one = Stretch(threads[thread][:many], ("a",)) if fits(threads[thread][:many]) else None
                if one is not None:
                    desk.exchange(thread, 0, many, least(one))
                    met += 1
            self.assertEqual(outcome(desk.program), desk.shown)
        self.assertGreater(met, 20)


def fits(code):
    return sum(step[0] in ("get", "put") for step in code) <= 6 and sum(step[0] == "set" for step in code) <= 6


if __name__ == "__main__":
    unittest.main()
