"""The examples of the document."""

import unittest

from orderlymoves.base.stretches import Stretch, is_code
from orderlymoves.base.values import applied, atoms, is_name, is_value, parts, unknown
from orderlymoves.errors import InvalidOperation, ParseError, Refused
from orderlymoves.judge.cases import cases
from orderlymoves.judge.changes import can_drop, can_move, drops, moved, moves
from orderlymoves.judge.stand import are_same, fault, is_stand_paper, may_stand, stand_paper
from orderlymoves.judge.witness import Surrounding, is_witness, surrounded, witness
from orderlymoves.lean.needs import due_writes, fewest, is_least, least, needed_reads
from orderlymoves.live.desk import Desk
from orderlymoves.live.pieces import exchanged, piece, private_cells
from orderlymoves.play.programs import Program
from orderlymoves.play.states import clash, ends, is_clash, is_orderly, outcome, states
from orderlymoves.text.formats import read_code, read_program, read_stretch, write_program, write_stretch
from orderlymoves.walk.cover import chain_at, chains, covered_places, covering, is_covered, write_chains
from orderlymoves.walk.ways import follow, ways

SEND = Stretch((("write", "x", "a"), ("put", "a"), ("write", "x", "b")))
LATE = Stretch((("put", "a"), ("write", "x", "b")))
WAIT = Stretch((("get", "r"), ("read", "s", "x")), ("r", "s"))
EARLY = Stretch((("read", "s", "x"), ("get", "r")), ("r", "s"))
CHOICE = Stretch((
    ("read", "r", "x"),
    ("if", "p", "r", (("put", "r"),), (("set", "r", "f", ("r",)), ("write", "x", "r"))),
), ("r",))
TURN = Stretch((("write", "x", "a"), ("put", "a"), ("get", "r"), ("read", "s", "x"), ("write", "x", "r")), ("s",))
KEEP = Stretch((
    ("read", "r", "x"), ("set", "q", "f", ("r",)), ("if", "p", "q", (("put", "r"),), (("write", "x", "q"),)),
    ("copy", "r", "q"),
), ("r",))
PAIR = Program((SEND.code, (("get", "m"), ("read", "n", "x"), ("show", "n"))), cells={"x": "old"})
CALM = Program((SEND.code + (("put", "b"),), (("get", "m"), ("get", "m"), ("read", "n", "x"), ("show", "n"))))
BEHIND = Stretch((("put", "a"), ("write", "x", "a")))
AHEAD = Stretch((("write", "x", "a"), ("put", "a")))
LOOK = Surrounding((("get", "b"), ("read", "c", "x"), ("show", "c")), (), {"x": "old"}, {})
TWICE = Stretch((("read", "a", "x"), ("get", "b"), ("read", "c", "x"), ("put", "c")))
SAVE = Stretch((("read", "a", "x"), ("write", "x", "b"), ("put", "b"), ("write", "x", "a"), ("put", "a")))
BACK = Stretch((("write", "x", "b"), ("put", "b"), ("get", "c"), ("read", "a", "x"), ("write", "y", "a")), ("a",))
TWO = Program((
    (("read", "a", "x"), ("write", "x", "b"), ("write", "x", "a"), ("put", "a")),
    (("get", "c"), ("read", "d", "x"), ("show", "d")),
))


class Examples(unittest.TestCase):
    def test_names_and_values(self):
        self.assertEqual(
            [is_name("put"), is_value("f(g(x.1), get.2)"), is_value("f(a,b)"), is_value("x.01"), unknown("get", 2),
             applied("f", "a", "g()")],
            [False, True, False, False, "get.2", "f(a, g())"])

    def test_parts_and_atoms(self):
        self.assertEqual(
            [parts("f(g(x.1), get.2)"), parts("x.1"), parts("f()"), atoms("f(g(x.1), f(x.1, a))"), atoms("f()")],
            [("f", ("g(x.1)", "get.2")), None, ("f", ()), ("a", "x.1"), ()])

    def test_the_stretches_of_the_introduction(self):
        self.assertEqual([LATE.size, LATE.keeps, EARLY.size, EARLY.keeps], [2, (), 2, ("r", "s")])
        self.assertEqual([LATE == SEND, WAIT == EARLY], [False, False])

    def test_a_stretch(self):
        self.assertEqual(
            [SEND.cells, SEND.registers, len(SEND), SEND[1], "x" in SEND, SEND.is_straight, str(WAIT)],
            [("x",), ("a", "b"), 3, ("put", "a"), True, True, "stretch of 2 statements, 1 cells, 2 kept"])

    def test_a_stretch_with_a_test(self):
        self.assertEqual(
            [CHOICE.size, len(CHOICE), CHOICE.functions, CHOICE.tests, (SEND + WAIT).keeps, (SEND + WAIT).size,
             WAIT.renamed(cells={"x": "y"})[1]],
            [5, 2, ("f",), ("p",), ("r", "s"), 5, ("read", "s", "y")])

    def test_code_and_kept_registers(self):
        self.assertEqual(
            [is_code((("put", "r"),)), is_code((("show", "r"),)), is_code([]), SEND.keeping(("a",)).keeps],
            [True, False, False, ("a",)])

    def test_a_way(self):
        way = follow(SEND, {})
        self.assertEqual(
            [way.letters, way.accesses, way.left, way.kept],
            [(("put", "a"),), (("write", "x", 0, "a"), ("write", "x", 1, "b")), (("x", 1, "b"),), {}])

    def test_ways_of_a_stretch_with_a_test(self):
        self.assertEqual(
            [(way.answers, way.letters, way.kept["r"], way.left) for way in ways(CHOICE)],
            [({("p", "x.1"): True}, (("put", "x.1"),), "x.1", ()),
             ({("p", "x.1"): False}, (), "f(x.1)", (("x", 0, "f(x.1)"),))])

    def test_a_way_with_a_private_cell(self):
        hidden = follow(TURN, {}, private=("x",))
        self.assertEqual(
            [follow(TURN, {}).left, follow(TURN, {}).kept, hidden.kept, hidden.left],
            [(("x", 0, "a"), ("x", 2, "get.1")), {"s": "x.2"}, {"s": "a"}, (("x", 2, "get.1"),)])

    def test_chains_and_covered_places(self):
        way = follow(TURN, {})
        self.assertEqual(
            [covered_places(way, "write", "x"), covered_places(way, "read", "x"), covering(way, "read", "x", 2),
             chains(way, "x"), write_chains(way, "x")],
            [(0, 2), (0, 2), (1, 2), ((0,), (1, 2)), ((0,), (2,))])
        self.assertEqual(
            [is_covered(way, "read", "x", 1), chain_at(way, "x", 0), chain_at(way, "x", 1), chain_at(way, "x", 2),
             is_covered(way, "read", "y", 0)],
            [False, 1, None, 2, False])
        self.assertEqual(
            [covered_places(follow(stretch, {}), "read", "x") for stretch in (SEND, WAIT, EARLY)],
            [(0, 1), (1,), (0, 1)])

    def test_cases(self):
        self.assertEqual(
            [[case.fault for case in cases(SEND, LATE)], [case.fault for case in cases(LATE, SEND)]],
            [[None], [None]])
        self.assertEqual(
            [[case.fault for case in cases(WAIT, EARLY)], [case.fault for case in cases(EARLY, WAIT)],
             [case.covers for case in cases(EARLY, WAIT)]],
            [[("bare", 0)], [None], [((0,),)]])

    def test_cases_of_stretches_with_tests(self):
        asked = [("p", "f(x.1)"), ("p", "x.1")]
        self.assertEqual(
            [[(sorted(case.answers), case.fault) for case in cases(CHOICE, KEEP)], str(next(cases(CHOICE, KEEP)))],
            [[(asked, ("register", "r")), (asked, ("bare", 1)), (asked, ("letter", 0)), (asked, None)],
             "case of 2 answers, 1 accesses, fault register r"])

    def test_what_may_stand(self):
        self.assertEqual(
            [may_stand(SEND, LATE), may_stand(WAIT, EARLY), may_stand(EARLY, WAIT), are_same(SEND, LATE),
             may_stand(WAIT, EARLY, private=("x",))],
            [True, False, True, True, True])
        self.assertEqual(
            [str(fault(WAIT, EARLY)), fault(CHOICE, KEEP).fault, fault(SEND, LATE), stand_paper(EARLY, WAIT),
             stand_paper(WAIT, EARLY)],
            ["case of 0 answers, 0 accesses, fault bare 0", ("register", "r"), None, {(): (0,)}, None])
        self.assertEqual(
            [is_stand_paper(SEND, LATE, {(): (1,)}), is_stand_paper(SEND, LATE, {(): (0,)}),
             is_stand_paper(SEND, SEND, {(): (1, 0)})],
            [True, False, False])

    def test_programs_and_runs(self):
        run = PAIR((0, 0, 1))
        self.assertEqual(
            [run.cells, run.lines, run.next_steps, run.clashing, run.held(1, "m"), run.ready, len(PAIR)],
            [{"x": "a"}, ((), ()), (("write", "x"), ("read", "x")), ((0, 1),), "a", (0, 1), 2])
        end = PAIR((0, 0, 0, 1, 1, 1))
        self.assertEqual(
            [run.after(1).after(1).shown, end.shown, end.is_end, PAIR.names, str(PAIR)],
            [((), ("a",)), ((), ("b",)), True, ("x",), "program of 2 threads, 6 statements, 1 cells"])
        with self.assertRaises(InvalidOperation):
            PAIR((1,))

    def test_all_that_a_program_can_do(self):
        self.assertEqual(
            [is_orderly(PAIR), ends(PAIR), is_clash(PAIR, (0, 0, 1)), is_clash(PAIR, (0, 1)), is_clash(PAIR, ()),
             states(PAIR)],
            [False, (((), ("a",)), ((), ("b",))), True, False, False, 12])
        self.assertEqual(
            [is_orderly(CALM), outcome(CALM), clash(CALM), is_clash(PAIR, clash(PAIR))],
            [True, ((), ("b",)), None, True])

    def test_witnesses(self):
        found = witness(AHEAD, BEHIND)
        self.assertEqual(
            [witness(BEHIND, AHEAD), is_witness(AHEAD, BEHIND, found), is_witness(BEHIND, AHEAD, found)],
            [None, True, False])
        self.assertEqual(
            [is_witness(AHEAD, BEHIND, LOOK), is_orderly(surrounded(AHEAD, LOOK)),
             is_orderly(surrounded(BEHIND, LOOK))],
            [True, True, False])

    def test_single_changes(self):
        written_back = Stretch((("read", "a", "x"), ("write", "x", "a")))
        self.assertEqual(
            [can_move(BEHIND, 1, -1), can_move(AHEAD, 0, 1), can_drop(AHEAD, 0), are_same(AHEAD, BEHIND),
             drops(written_back)],
            [True, False, False, False, (1,)])
        last = Stretch((("get", "b"), ("read", "c", "x"), ("put", "c"), ("read", "a", "x")))
        self.assertEqual(
            [drops(TWICE), list(moves(TWICE)), moved(TWICE, 0, 3) == last],
            [(0,), [(0, 1), (0, 2), (1, -1), (1, 1), (2, -2), (2, -1)], True])

    def test_straight_stretches(self):
        self.assertEqual(
            [needed_reads(SAVE), due_writes(SAVE), fewest(SAVE), is_least(SAVE), is_least(least(SAVE)),
             can_drop(SAVE, 1)],
            [(("x", 1),), (), {"x": (1, 0)}, False, True, True])
        self.assertEqual(
            [needed_reads(BACK), due_writes(BACK), fewest(BACK, private=("x", "y")), is_least(BACK)],
            [(("x", 2),), (("x", 0, "b"), ("y", 2, "x.2")), {"x": (0, 1), "y": (0, 1)}, True])

    def test_pieces(self):
        made = exchanged(TWO, 0, 0, 3, Stretch((("read", "a", "x"),)))
        self.assertEqual(
            [piece(TWO, 0, 0, 3).keeps, private_cells(TWO, 0), made.threads[0]],
            [("a",), (), (("read", "a", "x"), ("put", "a"))])
        with self.assertRaises(Refused):
            exchanged(TWO, 0, 2, 4, Stretch((("put", "a"), ("write", "x", "a"))))

    def test_a_desk(self):
        desk = Desk(TWO)
        self.assertEqual(
            [desk.learn("up", BEHIND, AHEAD), desk.exchange(0, 0, 3, Stretch((("read", "a", "x"),))), desk.shown,
             str(desk)],
            [None, None, ((), ("x.1",)), "desk of 2 threads, 5 statements, 1 rules"])
        self.assertEqual(
            [desk.can_apply("up", 0, 0), list(desk.places("up")), desk.undo(), len(desk.program.threads[0]),
             desk.redo(),
             desk.first == TWO],
            [False, [], 1, 4, 2, True])

    def test_texts(self):
        stretch = Stretch((("if", "p", "a", (("put", "a"),), ()), ("set", "b", "f", ("a", "a"))), ("b",))
        self.assertEqual(write_stretch(stretch), "keeps b\nif p a\nput a\nelse\nend\nset b f a a")
        self.assertEqual(
            [read_code("get a\nput a"), read_stretch("keeps") == Stretch(()), read_program(write_program(TWO)) == TWO],
            [(("get", "a"), ("put", "a")), True, True])
        with self.assertRaises(ParseError):
            read_code("if p a\nput a\nend")


if __name__ == "__main__":
    unittest.main()
