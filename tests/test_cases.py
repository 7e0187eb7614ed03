"""Cases of two stretches: the walk beside a way, its faults, its answers, and the order of the cases."""

import types
import unittest

import reference
from orderlymoves.base.stretches import Stretch
from orderlymoves.errors import InvalidOperation, InvalidStretch
from orderlymoves.judge.cases import Case, cases
from orderlymoves.walk.cover import covering
from orderlymoves.walk.ways import follow, ways
from samples import check_errors, large, no_names, others, some_pairs, tuples

SIGNS = {
    "r": ("read", "r", "x"), "w": ("write", "x", "a"), "v": ("write", "x", "b"), "u": ("write", "x", "r"),
    "R": ("read", "s", "y"), "W": ("write", "y", "a"), "V": ("write", "y", "b"), "U": ("write", "y", "s"),
    "g": ("get", "g"), "h": ("get", "h"), "p": ("put", "a"), "q": ("put", "b"), "o": ("put", "r"), "G": ("put", "g"),
}
BEHIND = Stretch((("put", "a"), ("write", "x", "a")))
AHEAD = Stretch((("write", "x", "a"), ("put", "a")))
CHOICE = Stretch((
    ("read", "r", "x"),
    ("if", "p", "r", (("put", "r"),), (("set", "r", "f", ("r",)), ("write", "x", "r"))),
), ("r",))
KEEP = Stretch((
    ("read", "r", "x"), ("set", "q", "f", ("r",)),
    ("if", "p", "q", (("put", "r"),), (("write", "x", "q"),)), ("copy", "r", "q"),
), ("r",))
WRITING = Stretch((("write", "x", "a"), ("write", "y", "b")))


def stretch_of(text, keeps=()):
    return Stretch(tuple(SIGNS[sign] for sign in text), keeps)


def one_case(one, other, keeps=(), private=()):
    """The only case of two stretches without tests."""
    found, = cases(stretch_of(one, keeps), stretch_of(other, keeps), private=private)
    return found


def faults(one, other, private=()):
    return [case.fault for case in cases(one, other, private=private)]


def choice(test, name, yes="", no=""):
    return ("if", test, name, stretch_of(yes).code, stretch_of(no).code)


class Interface(unittest.TestCase):
    def test_all_is_defined_in_this_module(self):
        self.assertEqual((cases.__module__, Case.__module__), ("orderlymoves.judge.cases",) * 2)
        for name in ("way", "answers", "fault", "accesses", "letters", "covers"):
            self.assertIsInstance(vars(Case)[name], property)
        for name in ("__eq__", "__str__"):
            self.assertIn(name, vars(Case))

    def test_it_is_a_generator(self):
        found = cases(BEHIND, AHEAD)
        self.assertIsInstance(found, types.GeneratorType)
        self.assertIsInstance(next(found), Case)
        with self.assertRaises(StopIteration):
            next(found)

    def test_cases_never_change(self):
        case = next(cases(CHOICE, KEEP))
        for name in ("way", "answers", "fault", "accesses", "letters", "covers"):
            with self.subTest(name), self.assertRaises(AttributeError):
                setattr(case, name, None)

    def test_private_is_passed_by_keyword(self):
        with self.assertRaises(TypeError):
            cases(BEHIND, AHEAD, ())


class Faults(unittest.TestCase):
    def faults(self, told, keeps=(), private=()):
        for one, other, fault in told:
            with self.subTest(one=one, other=other):
                self.assertEqual(one_case(one, other, keeps, private).fault, fault)

    def test_none(self):
        self.faults([
            ("", "", None), ("r", "", None), ("r", "rrr", None), ("rp", "rp", None), ("wpv", "pv", None),
            ("pv", "wpv", None), ("pw", "wp", None), ("gr", "gr", None), ("rg", "gr", None), ("pr", "rp", None),
            ("w", "rw", None), ("w", "vw", None), ("wr", "w", None), ("rRgp", "gp", None), ("rw", "ww", None),
        ])

    def test_bare(self):
        self.faults([
            ("", "r", ("bare", 0)), ("", "w", ("bare", 0)), ("r", "w", ("bare", 0)), ("r", "rw", ("bare", 1)),
            ("r", "R", ("bare", 0)), ("w", "rwRw", ("bare", 2)), ("gr", "rg", ("bare", 0)), ("rp", "pr", ("bare", 0)),
            ("rgpw", "wgpw", ("bare", 0)), ("rpgw", "rpgww", None), ("rpgr", "rprgr", ("bare", 1)),
            ("wr", "wrrRr", ("bare", 3)), ("gw", "rgw", ("bare", 0)), ("gw", "wgw", ("bare", 0)),
        ])

    def test_bare_counts_accesses_and_not_statements(self):
        self.faults([("pgr", "pgr" + "rR", ("bare", 2)), ("rgg", "rggrrR", ("bare", 3)), ("rpg", "rpgr", ("bare", 1))])

    def test_letters_of_another_kind(self):
        self.faults([
            ("g", "p", ("letter", 0)), ("p", "g", ("letter", 0)), ("pg", "pp", ("letter", 1)), ("gp", "gg", ("letter", 1)),
            ("ggpg", "ggpp", ("letter", 3)), ("rg", "rp", ("letter", 0)),
        ])

    def test_puts_of_another_value(self):
        self.faults([
            ("p", "q", ("letter", 0)), ("pp", "pq", ("letter", 1)), ("gp", "gG", ("letter", 1)), ("ro", "wo", ("bare", 0)),
            ("ro", "o", ("letter", 0)), ("rp", "ro", ("letter", 0)), ("wro", "wp", None), ("ghG", "hgG", ("letter", 2)),
        ])

    def test_a_letter_that_the_way_does_not_have(self):
        self.faults([
            ("", "p", ("letter", 0)), ("", "g", ("letter", 0)), ("p", "pp", ("letter", 1)), ("gp", "gpg", ("letter", 2)),
            ("w", "wg", ("letter", 0)), ("rg", "rgp", ("letter", 1)),
        ])

    def test_a_letter_that_the_walk_does_not_have(self):
        self.faults([
            ("p", "", ("letter", 0)), ("g", "", ("letter", 0)), ("pp", "p", ("letter", 1)), ("gpg", "gp", ("letter", 2)),
            ("gpgp", "g", ("letter", 1)), ("wp", "w", ("letter", 0)),
        ])

    def test_content_at_a_put(self):
        self.faults([
            ("wp", "p", ("content", "x", 0)), ("wp", "vp", ("content", "x", 0)), ("wp", "wvp", ("content", "x", 0)),
            ("wp", "pw", ("content", "x", 0)), ("gwp", "gp", ("content", "x", 1)), ("wgp", "gvp", ("content", "x", 1)),
            ("wgp", "gwp", None), ("wpgwp", "wpgp", ("content", "x", 2)), ("vpgwp", "wpgwp", ("content", "x", 0)),
            ("wp", "pv", ("content", "x", 0)),
        ])

    def test_content_that_was_read(self):
        self.faults([
            ("rup", "p", None), ("rup", "rp", None), ("rup", "wp", ("content", "x", 0)), ("rup", "wup", ("content", "x", 0)),
            ("Rup", "p", ("content", "x", 0)), ("wpgrup", "wpgp", None), ("wp", "rup", ("content", "x", 0)),
        ])

    def test_the_first_cell_counts(self):
        self.faults([
            ("wWp", "p", ("content", "x", 0)), ("Wwp", "wp", ("content", "y", 0)), ("Wwp", "VVp", ("content", "x", 0)),
            ("wWp", "vVp", ("content", "x", 0)), ("wW", "", ("content", "x", 0)), ("Ww", "w", ("content", "y", 0)),
            ("Ww", "vV", ("content", "x", 0)), ("wpW", "wp", ("content", "y", 1)), ("wpW", "pW", ("content", "x", 0)),
        ])

    def test_content_is_only_due_where_the_way_leaves_it(self):
        self.faults([
            ("wpv", "vpv", None), ("wpw", "vpw", None), ("wpv", "ppv", ("letter", 1)), ("wpgv", "vpgv", ("content", "x", 0)),
            ("wgv", "gv", None), ("rpv", "vp", None), ("wpqv", "vpq", None),
        ])

    def test_content_at_the_end(self):
        self.faults([
            ("w", "", ("content", "x", 0)), ("w", "v", ("content", "x", 0)), ("w", "wv", ("content", "x", 0)),
            ("pw", "p", ("content", "x", 1)), ("wg", "g", ("content", "x", 1)), ("wg", "vg", ("content", "x", 1)),
            ("wg", "gw", None), ("wpggw", "wpgg", ("content", "x", 3)), ("wpgw", "wpgv", ("content", "x", 2)),
            ("wpgv", "wpg", ("content", "x", 2)), ("rw", "r", ("content", "x", 0)), ("ru", "r", None),
        ])

    def test_registers_at_the_end(self):
        self.faults([
            ("r", "", ("register", "r")), ("g", "h", ("register", "g")), ("rg", "h", ("register", "g")),
            ("rg", "rh", ("register", "g")), ("R", "r", ("bare", 0)), ("R", "", ("register", "s")),
            ("rR", "R", ("register", "r")), ("wr", "w", ("register", "r")), ("wr", "wrrr", None), ("", "", None),
        ], ("g", "r", "s"))

    def test_other_registers_do_not_matter(self):
        self.faults([("r", "", None), ("g", "h", None), ("rg", "h", None), ("R", "", None)])
        self.faults([("rg", "h", None), ("Rr", "R", None)], ("a",))

    def test_which_fault_comes_first(self):
        self.faults([
            # In the order of the walk.
            ("wp", "Rq", ("bare", 0)), ("wp", "wqR", ("letter", 0)), ("wp", "pR", ("content", "x", 0)),
            ("wp", "qR", ("letter", 0)), ("wpp", "pq", ("content", "x", 0)), ("wpq", "wqp", ("letter", 0)),
            ("r", "rRw", ("bare", 1)), ("r", "rwR", ("bare", 1)), ("wp", "wR", ("bare", 1)),
            # A letter of another value is that fault, whatever the way leaves there.
            ("wp", "q", ("letter", 0)), ("wp", "g", ("letter", 0)),
            # At the end letters come first, then contents, then registers.
            ("wpr", "", ("letter", 0)), ("wprg", "wp", ("letter", 1)), ("wr", "", ("content", "x", 0)),
            ("Wr", "", ("content", "y", 0)), ("Wr", "W", ("register", "r")), ("rRgg", "g", ("letter", 1)),
            ("wgrR", "g", ("content", "x", 1)), ("wp", "", ("letter", 0)),
        ], ("g", "r", "s"))

    def test_private_cells(self):
        self.faults([
            ("", "r", None), ("", "R", ("bare", 0)), ("", "w", ("content", "x", 0)), ("", "ru", None),
            ("w", "", ("content", "x", 0)), ("w", "v", ("content", "x", 0)), ("w", "vw", None), ("r", "", None),
            ("r", "w", ("content", "x", 0)), ("wp", "pw", None), ("wp", "p", ("content", "x", 1)), ("gr", "rg", None),
            ("wpgr", "pgw", None), ("wpgv", "vpg", None), ("ru", "", None), ("pg", "pgr", None), ("pg", "pwg", ("content", "x", 2)),
            ("pg", "rpgu", None), ("w", "p", ("letter", 0)), ("wp", "", ("letter", 0)), ("p", "wq", ("letter", 0)),
        ], private=("x",))

    def test_private_cells_beside_others(self):
        for one, other, private, fault in (
            ("W", "w", ("x",), ("content", "x", 0)), ("W", "", ("x",), ("content", "y", 0)), ("W", "w", (), ("bare", 0)),
            ("w", "W", ("y",), ("content", "x", 0)), ("w", "vW", ("y",), ("content", "x", 0)),
            ("w", "wW", ("y",), ("content", "y", 0)), ("w", "wRU", ("y",), None), ("wW", "", ("x", "y"), ("content", "x", 0)),
            ("wW", "w", ("x", "y"), ("content", "y", 0)), ("", "WR", ("x", "y"), ("content", "y", 0)),
            ("WpgV", "pgV", ("y",), None), ("WpgV", "pgV", ("x",), ("content", "y", 0)), ("", "", ("x", "y", "zz"), None),
        ):
            with self.subTest(one=one, other=other, private=private):
                self.assertEqual(one_case(one, other, (), private).fault, fault)

    def test_all_cells_private_with_kept_registers(self):
        self.faults([("r", "r", None), ("wr", "w", ("register", "r")), ("rw", "wr", ("register", "r"))], ("r",), ("x", "y"))


class Walks(unittest.TestCase):
    def test_the_values_of_the_walk(self):
        case = one_case("rpgrw", "rpgrw", ("r",))
        self.assertEqual(case.accesses, (("read", "x", 0, "x.1"), ("read", "x", 2, "x.2"), ("write", "x", 2, "a")))
        self.assertEqual(case.letters, (("put", "a"), ("get", "get.1")))
        self.assertIsNone(case.fault)

    def test_chains_are_those_of_the_way(self):
        # The walk has no access between its letters, and still reads in the chain of the way.
        case = one_case("wprgr", "wpgr", ("r",))
        self.assertEqual(case.accesses, (("write", "x", 0, "a"), ("read", "x", 2, "a")))
        self.assertIsNone(case.fault)
        case = one_case("wpgr", "wpgr", ("r",))
        self.assertEqual(case.accesses, (("write", "x", 0, "a"), ("read", "x", 2, "x.2")))
        case = one_case("wprgr", "wpgu", ("r",))
        self.assertEqual((case.accesses, case.fault), ((("write", "x", 0, "a"),), ("bare", 1)))

    def test_the_walk_reads_what_it_wrote(self):
        case = one_case("rw", "wr", ("r",))
        self.assertEqual(case.accesses, (("write", "x", 0, "a"), ("read", "x", 0, "a")))
        self.assertEqual(case.fault, ("register", "r"))

    def test_a_read_ahead_of_the_write_of_the_way_brings_the_unknown(self):
        case = one_case("pwr", "rpw", ("r",))
        self.assertEqual((case.accesses[0], case.fault), (("read", "x", 0, "x.1"), ("register", "r")))

    def test_contents_stay_in_their_chain(self):
        case = one_case("wpgr", "wpgr")
        self.assertEqual([access[3] for access in case.accesses], ["a", "x.2"])
        case = one_case("wpgrpgr", "wpgrpgr")
        self.assertEqual([access[3] for access in case.accesses], ["a", "x.2", "x.3"])
        case = one_case("wpgr", "wpgr", (), ("x",))
        self.assertEqual([access[3] for access in case.accesses], ["a", "a"])

    def test_what_the_fault_is_does_not_belong_to_the_walk(self):
        case = one_case("wpg", "wpgrR")
        self.assertEqual((case.fault, len(case.accesses), len(case.letters)), (("bare", 1), 1, 2))
        case = one_case("wpg", "wrpp")
        self.assertEqual((case.fault, case.letters, len(case.accesses)), (("letter", 1), (("put", "a"),), 2))
        case = one_case("wp", "rpr")
        self.assertEqual((case.fault, case.letters, len(case.accesses)), (("content", "x", 0), (("put", "a"),), 1))
        case = one_case("g", "p")
        self.assertEqual((case.fault, case.letters, case.accesses), (("letter", 0), (), ()))
        case = one_case("gp", "g")
        self.assertEqual((case.fault, case.letters), (("letter", 1), (("get", "get.1"),)))

    def test_registers_begin_with_their_names(self):
        case = one_case("qp", "qp", ("a", "b"))
        self.assertEqual(case.letters, (("put", "b"), ("put", "a")))
        found, = cases(Stretch((("set", "a", "f", ("a", "b")), ("put", "a"))),
                       Stretch((("set", "z", "f", ("a", "b")), ("put", "z"))))
        self.assertEqual((found.letters, found.fault), ((("put", "f(a, b)"),), None))

    def test_covers(self):
        case = one_case("rwpgRrw", "vwrpgrRw")
        self.assertEqual(case.covers, ((1,), (1,), (0, 1), (3, 4), (2,), (4,)))
        self.assertIsNone(case.fault)
        case = one_case("rwpgRrw", "vwrpgrRw", (), ("x",))
        self.assertEqual(case.covers, ((), (), (), (), (2,), ()))
        case = one_case("rR", "rRRw")
        self.assertEqual((case.covers, case.fault), (((0,), (1,), (1,)), ("bare", 3)))

    def test_the_way_is_that_of_the_first_stretch(self):
        case = one_case("rpw", "wp", ("r",), ("x",))
        self.assertEqual(case.way, follow(stretch_of("rpw", ("r",)), {}, private=("x",)))
        self.assertEqual(case.way.private, ("x",))


class Answers(unittest.TestCase):
    def test_answers_of_the_way_and_of_the_walk(self):
        found = [(list(case.answers.items()), case.fault) for case in cases(CHOICE, KEEP)]
        of_way, of_walk = ("p", "x.1"), ("p", "f(x.1)")
        self.assertEqual(found, [
            ([(of_walk, True), (of_way, True)], ("register", "r")),
            ([(of_walk, False), (of_way, True)], ("bare", 1)),
            ([(of_walk, True), (of_way, False)], ("letter", 0)),
            ([(of_walk, False), (of_way, False)], None),
        ])

    def test_the_answers_of_the_way_are_its_own(self):
        for case in cases(CHOICE, KEEP):
            self.assertEqual(list(case.way.answers), [("p", "x.1")])
            self.assertLessEqual(case.way.answers.items(), case.answers.items())

    def test_an_answer_of_the_way_is_not_asked_again(self):
        self.assertEqual([list(case.answers) for case in cases(CHOICE, CHOICE)], [[("p", "x.1")]] * 2)
        one = Stretch((choice("p", "a", "p", "q"),))
        other = Stretch((("copy", "c", "a"), choice("p", "c", "p"), choice("p", "a", "", "q")))
        self.assertEqual([(case.answers, case.fault) for case in cases(one, other)],
                         [({("p", "a"): True}, None), ({("p", "a"): False}, None)])

    def test_the_walk_asks_twice_for_the_same(self):
        other = Stretch((choice("p", "a", "p"), choice("p", "a", "", "p")))
        self.assertEqual([(case.answers, case.fault) for case in cases(stretch_of("p"), other)],
                         [({("p", "a"): True}, None), ({("p", "a"): False}, None)])

    def test_the_way_asks_and_the_walk_does_not(self):
        one = Stretch((choice("p", "a", "r", "r"),), ("r",))
        self.assertEqual([(case.answers, case.fault) for case in cases(one, stretch_of("r", ("r",)))],
                         [({("p", "a"): True}, None), ({("p", "a"): False}, None)])

    def test_what_is_not_asked_before_a_fault_is_no_answer(self):
        other = Stretch(stretch_of("r").code + (choice("p", "a"),))
        self.assertEqual([(case.answers, case.fault) for case in cases(stretch_of(""), other)], [({}, ("bare", 0))])
        other = Stretch((choice("p", "a", "r"), choice("p", "b")))
        self.assertEqual([(case.answers, case.fault) for case in cases(stretch_of(""), other)], [
            ({("p", "a"): True}, ("bare", 0)), ({("p", "a"): False, ("p", "b"): True}, None),
            ({("p", "a"): False, ("p", "b"): False}, None)])

    def test_no_test_at_all(self):
        self.assertEqual([case.answers for case in cases(BEHIND, AHEAD)], [{}])

    def test_the_order_of_the_cases(self):
        one = Stretch((choice("o", "a"), choice("p", "a")))
        other = Stretch((choice("q", "a"), choice("o", "b"), choice("o", "a")))
        asked = [("o", "a"), ("p", "a"), ("q", "a"), ("o", "b")]
        found = [[case.answers[pair] for pair in asked] for case in cases(one, other)]
        self.assertEqual(found, sorted(found, reverse=True))
        self.assertEqual(len(found), 16)
        self.assertEqual(list(next(cases(one, other)).answers), sorted(asked))

    def test_ifs_nested_three_deep(self):
        deep = Stretch((("if", "p", "a", (("if", "q", "a", (choice("o", "a", "p", "q"),), stretch_of("r").code),),
                         stretch_of("w").code),))
        self.assertEqual(faults(deep, deep), [None] * 4)
        found = [(tuple(case.answers.values()), case.fault) for case in cases(stretch_of("p"), deep)]
        self.assertEqual(found, [((True, True, True), None), ((False, True, True), ("letter", 0)),
                                 ((True, False), ("bare", 0)), ((False,), ("bare", 0))])
        self.assertEqual(faults(deep, stretch_of("p")), [None, ("letter", 0), ("letter", 0), ("letter", 0)])

    def test_dicts_are_new_ones_each_time(self):
        case = next(cases(CHOICE, KEEP))
        case.answers.clear()
        case.way.answers.clear()
        self.assertEqual(len(case.answers), 2)
        self.assertEqual(case.way, follow(CHOICE, {("p", "x.1"): True}))

    def test_a_case_is_not_changed_by_the_next_one(self):
        found = cases(CHOICE, KEEP)
        first = next(found)
        first.answers.clear()
        self.assertEqual([first] + list(found), list(cases(CHOICE, KEEP)))


class Promises(unittest.TestCase):
    def test_a_stretch_has_no_fault_with_itself(self):
        for one, other in some_pairs(4, 150):
            for stretch in (one, other, one + other):
                for private in ((), ("x",), ("x", "y"), ("z",)):
                    self.assertEqual(set(faults(stretch, stretch, private)), {None})
                    self.assertEqual([case.way for case in cases(stretch, stretch, private=private)],
                                     list(ways(stretch, private=private)))

    def test_as_the_document_says(self):
        kinds = {}
        for one, other in some_pairs(5, 700):
            for private in ((), ("x",), ("x", "y")):
                found = list(cases(one, other, private=private))
                expected = []
                for answers, way in reference.answered(
                        lambda told: reference.follow(one.code, one.keeps, told, private)):
                    expected += [(*told, way) for told in reference.answered(
                        lambda more: reference.beside(way, other.code, more), answers)]
                self.assertEqual([case.answers for case in found], [answers for answers, _, _ in expected])
                for case, (_, (fault, accesses, letters), way) in zip(found, expected):
                    self.assertEqual((case.fault, list(case.accesses), list(case.letters)), (fault, accesses, letters))
                    self.assertEqual(case.way.answers, way["answers"])
                    covers = [covering(case.way, kind, cell, place) for kind, cell, place, _ in accesses]
                    self.assertEqual(list(case.covers), covers)
                    kinds[fault and fault[0]] = kinds.get(fault and fault[0], 0) + 1
        self.assertGreater(min(kinds[kind] for kind in (None, "bare", "letter", "content", "register")), 20)

    def test_stretches_beyond_the_bounds(self):
        one = large((("read", "r", "x"), ("put", "r"), ("get", "a"), ("write", "x", "a")) * 12, ("r",))
        self.assertEqual(faults(one, one), [None])
        other = large(one.code[:-1] + (("write", "x", "r"),), ("r",))
        self.assertEqual(faults(one, other), [("content", "x", 24)])
        self.assertEqual(faults(one, other, ("x",)), [("content", "x", 24)])


class Operators(unittest.TestCase):
    def test_texts(self):
        for one, other, text in (
            ("r", "r", "case of 0 answers, 1 accesses, no fault"),
            ("r", "rw", "case of 0 answers, 1 accesses, fault bare 1"),
            ("pg", "pp", "case of 0 answers, 0 accesses, fault letter 1"),
            ("wpgw", "wpgr", "case of 0 answers, 2 accesses, fault content x 2"),
            ("", "g", "case of 0 answers, 0 accesses, fault letter 0"),
        ):
            self.assertEqual(str(one_case(one, other)), text)
        self.assertEqual([str(case) for case in cases(CHOICE, KEEP)], [
            "case of 2 answers, 1 accesses, fault register r", "case of 2 answers, 1 accesses, fault bare 1",
            "case of 2 answers, 1 accesses, fault letter 0", "case of 2 answers, 2 accesses, no fault"])

    def test_equal_cases(self):
        self.assertTrue(next(cases(CHOICE, KEEP)) == next(cases(CHOICE, KEEP)))
        self.assertFalse(next(cases(CHOICE, KEEP)) != next(cases(CHOICE, KEEP)))
        # The second stretch is not among the properties.
        self.assertEqual(one_case("rp", "p"), next(cases(stretch_of("rp"), Stretch((("copy", "b", "a"), ("put", "b"))))))
        self.assertEqual(next(cases(BEHIND, AHEAD)), next(cases(BEHIND, Stretch((("copy", "c", "a"),)) + AHEAD)))

    def test_other_cases(self):
        found = list(cases(CHOICE, KEEP)) + [
            one_case("r", "r"), one_case("r", ""), one_case("r", "rr"), one_case("w", "w"), one_case("w", "wr"),
            one_case("w", "v"), one_case("w", ""), one_case("w", "R"), one_case("w", "p"), one_case("w", "", (), ("x",)), one_case("r", "r", ("a",)),
            one_case("r", "r", (), ("x",)), one_case("r", "r", (), ("y",)), one_case("", ""), one_case("p", "p"),
            one_case("p", ""), one_case("g", "g"), one_case("rg", "rg"), one_case("rg", "gr"),
            *cases(stretch_of("r"), Stretch((choice("p", "a", "r", "r"),))),
        ]
        for at, one in enumerate(found):
            for index, other in enumerate(found):
                self.assertIs(one == other, at == index, (str(one), str(other)))
                self.assertIs(one != other, at != index)

    def test_other_values(self):
        case = one_case("r", "r")
        for value in others() + tuples() + no_names() + [case.way, CHOICE, case.accesses, [case], str(case), None]:
            if not isinstance(value, Case):
                self.assertIs(case == value, False)
                self.assertIs(value == case, False)
                self.assertIs(case != value, True)

    def test_cases_are_not_iterated_over(self):
        with self.assertRaises(TypeError):
            iter(one_case("r", "r"))


class Errors(unittest.TestCase):
    STRETCHES = [value for value in others() if not isinstance(value, Stretch)] + tuples() + no_names() + [
        (), (("put", "a"),), follow(BEHIND, {}), one_case("", "")]
    PRIVATE = others() + tuples() + no_names() + ["x", ["x"], {"x": True}, ("y", "x"), BEHIND]

    def test_the_first_that_applies(self):
        for good in (BEHIND, BEHIND.keeping(("a",))):
            check_errors(self, lambda one, other, private: next(cases(one, other, private=private)), [
                (BEHIND, self.STRETCHES, InvalidStretch),
                (good, self.STRETCHES, InvalidStretch),
                ((), self.PRIVATE, InvalidOperation),
            ])

    def test_kept_registers_that_are_not_equal(self):
        for one, other in (((), ("a",)), (("a",), ()), (("a",), ("b",)), (("a",), ("a", "b")), (("a", "b"), ("a", "c"))):
            with self.subTest(one=one, other=other), self.assertRaises(InvalidOperation):
                next(cases(BEHIND.keeping(one), BEHIND.keeping(other)))

    def test_errors_are_raised_at_the_first_value(self):
        for one, other, private in ((1, 2, 3), (BEHIND, None, ()), (BEHIND, AHEAD, ["x"]),
                                    (BEHIND, AHEAD.keeping(("a",)), ())):
            self.assertIsInstance(cases(one, other, private=private), types.GeneratorType)


if __name__ == "__main__":
    unittest.main()
