"""Ways of a stretch: letters, accesses, chains, unknowns, what is left, and the order of the ways."""

import types
import unittest

import reference
from orderlymoves.base.stretches import Stretch
from orderlymoves.errors import InvalidOperation, InvalidStretch, Unanswered
from orderlymoves.walk import ways as module
from orderlymoves.walk.ways import Way, follow, ways
from samples import check_errors, large, no_answers, no_names, others, some_pairs, tuples

READ = ("read", "r", "x")
WRITE = ("write", "x", "a")
GET = ("get", "g")
PUT = ("put", "a")
CHOICE = Stretch((
    ("read", "r", "x"),
    ("if", "p", "r", (("put", "r"),), (("set", "r", "f", ("r",)), ("write", "x", "r"))),
), ("r",))
DEEP = Stretch((("if", "p", "a", (("if", "q", "a", (("if", "o", "a", (PUT,), (GET,)),), (READ,)),), (WRITE,)),))
LETTERS = {"g": GET, "p": PUT}
# Letters between two accesses, and whether others can come between.
BETWEEN = {"": False, "g": False, "p": False, "gg": False, "pp": False, "gp": False, "pg": True, "ppg": True,
           "pgg": True, "gpg": True, "ggp": False, "gpp": False, "pgp": True, "ggpp": False, "gppg": True}


def plain(code, keeps=(), private=()):
    """The way of code without tests."""
    return follow(Stretch(code, keeps), {}, private=private)


def code_of(text):
    """Code from a text: r reads x, w writes it, g gets and p puts; each write has another value."""
    signs = {"r": READ, "g": GET, "p": PUT}
    return tuple(signs.get(sign, ("write", "x", "v" + "abcdefghij"[at % 10])) for at, sign in enumerate(text))


def values(way):
    return [access[3] for access in way.accesses]


class Interface(unittest.TestCase):
    def test_all_is_defined_in_this_module(self):
        for member in (follow, ways, Way):
            self.assertEqual(member.__module__, "orderlymoves.walk.ways")
        for name in ("stretch", "private", "answers", "letters", "accesses", "kept", "left"):
            self.assertIsInstance(vars(Way)[name], property)
        for name in ("__len__", "__eq__", "__str__"):
            self.assertIn(name, vars(Way))
        self.assertIs(module.Stretch, Stretch)

    def test_ways_never_change(self):
        way = follow(CHOICE, {("p", "x.1"): True})
        for name in ("stretch", "private", "answers", "letters", "accesses", "kept", "left"):
            with self.subTest(name), self.assertRaises(AttributeError):
                setattr(way, name, ())

    def test_private_is_passed_by_keyword(self):
        with self.assertRaises(TypeError):
            follow(CHOICE, {}, ())
        with self.assertRaises(TypeError):
            ways(CHOICE, ())


class Letters(unittest.TestCase):
    def test_an_empty_stretch(self):
        way = plain((), ("a", "b"))
        self.assertEqual((way.answers, way.letters, way.accesses, way.left), ({}, (), (), ()))
        self.assertEqual((way.kept, way.private, way.stretch), ({"a": "a", "b": "b"}, (), Stretch((), ("a", "b"))))
        self.assertEqual((len(way), str(way)), (0, "way of 0 answers, 0 letters, 0 accesses"))

    def test_gets_are_numbered_apart_from_puts(self):
        way = plain((("put", "a"), ("get", "a"), ("put", "a"), ("get", "b"), ("get", "a"), ("put", "b")), ("a", "b"))
        self.assertEqual(way.letters, (("put", "a"), ("get", "get.1"), ("put", "get.1"), ("get", "get.2"),
                                       ("get", "get.3"), ("put", "get.2")))
        self.assertEqual(way.kept, {"a": "get.3", "b": "get.2"})

    def test_values_of_functions(self):
        way = plain((("set", "a", "f", ()), ("set", "b", "g", ("a",)), ("set", "a", "h", ("b", "a")), ("put", "a"),
                     ("set", "c", "f", ("d", "d")), ("put", "c")), ("a", "b", "c", "d"))
        self.assertEqual(way.letters, (("put", "h(g(f()), f())"), ("put", "f(d, d)")))
        self.assertEqual(way.kept, {"a": "h(g(f()), f())", "b": "g(f())", "c": "f(d, d)", "d": "d"})

    def test_copies(self):
        way = plain((("copy", "a", "b"), ("copy", "b", "c"), ("put", "a"), ("put", "b")), ("a", "b", "c"))
        self.assertEqual(way.letters, (("put", "b"), ("put", "c")))
        self.assertEqual(way.kept, {"a": "b", "b": "c", "c": "c"})

    def test_a_function_of_its_own_register(self):
        self.assertEqual(plain((("set", "a", "f", ("a", "b")),) * 2, ("a",)).kept, {"a": "f(f(a, b), b)"})

    def test_only_kept_registers_are_kept(self):
        self.assertEqual(plain((("set", "a", "f", ()), ("set", "b", "g", ())), ("b", "z")).kept, {"b": "g()", "z": "z"})

    def test_kept_registers_ascend(self):
        way = plain((("get", "d"), ("get", "b"), ("get", "a")), ("a", "b", "c", "d"))
        self.assertEqual(list(way.kept.items()), [("a", "get.3"), ("b", "get.2"), ("c", "c"), ("d", "get.1")])


class Accesses(unittest.TestCase):
    def test_places_are_the_numbers_of_letters_ahead(self):
        way = plain((("read", "a", "x"), PUT, ("write", "y", "b"), GET, GET, ("read", "c", "y"), ("write", "x", "c"),
                     PUT, ("read", "d", "z")))
        self.assertEqual(way.accesses, (("read", "x", 0, "x.1"), ("write", "y", 1, "b"), ("read", "y", 3, "b"),
                                        ("write", "x", 3, "b"), ("read", "z", 4, "z.1")))
        self.assertEqual(len(way), 5)

    def test_places_in_private_cells_are_the_same(self):
        code = (READ, PUT, WRITE, GET, READ)
        self.assertEqual([access[2] for access in plain(code, (), ("x",)).accesses], [0, 1, 2])
        self.assertEqual([access[2] for access in plain(code).accesses], [0, 1, 2])

    def test_a_read_brings_what_was_written(self):
        way = plain((WRITE, ("read", "b", "x"), ("set", "b", "f", ("b",)), ("write", "x", "b"), READ), ("r",))
        self.assertEqual(values(way), ["a", "a", "f(a)", "f(a)"])
        self.assertEqual(way.kept, {"r": "f(a)"})

    def test_two_reads_bring_the_same(self):
        self.assertEqual(values(plain((READ, PUT, ("read", "s", "x"), GET, ("read", "t", "y")))), ["x.1", "x.1", "y.1"])

    def test_a_register_and_a_cell_can_have_one_name(self):
        way = plain((("read", "x", "x"), ("put", "x"), ("get", "x"), ("write", "x", "x"), ("read", "p", "x")))
        self.assertEqual(way.letters, (("put", "x.1"), ("get", "get.1")))
        self.assertEqual(values(way), ["x.1", "get.1", "get.1"])


class Chains(unittest.TestCase):
    def test_each_order_of_letters_between_two_reads(self):
        for between, is_parted in BETWEEN.items():
            way = plain(code_of("r" + between + "r"))
            with self.subTest(between):
                self.assertEqual(values(way), ["x.1", "x.2" if is_parted else "x.1"])
                self.assertEqual(values(plain(code_of("r" + between + "r"), (), ("x",))), ["x.1", "x.1"])

    def test_each_order_of_letters_between_a_write_and_a_read(self):
        for between, is_parted in BETWEEN.items():
            with self.subTest(between):
                self.assertEqual(values(plain(code_of("w" + between + "r"))), ["va", "x.2" if is_parted else "va"])
                self.assertEqual(values(plain(code_of("w" + between + "r"), (), ("x",))), ["va", "va"])

    def test_each_order_of_letters_between_a_read_a_write_and_a_read(self):
        for between, is_parted in BETWEEN.items():
            way = plain(code_of("r" + between + "wr"))
            with self.subTest(between):
                self.assertEqual(values(way)[0], "x.1")
                self.assertEqual(values(way)[1], values(way)[2])
                way = plain(code_of("r" + between + "r" + "pg" + "r"))
                self.assertEqual(values(way)[2], "x.3" if is_parted else "x.2")

    def test_letters_outside_do_not_part(self):
        self.assertEqual(values(plain(code_of("prg" + "r"))), ["x.1", "x.1"])
        self.assertEqual(values(plain(code_of("pgr" + "pr"))), ["x.1", "x.1"])
        self.assertEqual(values(plain(code_of("rr" + "pg"))), ["x.1", "x.1"])

    def test_an_access_between_the_put_and_the_get(self):
        # Each of the three is not parted from the one ahead of it.
        self.assertEqual(values(plain(code_of("wprgr"))), ["va", "va", "va"])
        self.assertEqual(values(plain(code_of("wpwgr"))), ["va", "vc", "vc"])
        self.assertEqual(values(plain(code_of("wpgr"))), ["va", "x.2"])

    def test_an_access_to_another_cell_between_them(self):
        way = plain((WRITE, PUT, ("read", "b", "y"), GET, READ))
        self.assertEqual(values(way), ["a", "y.1", "x.2"])

    def test_each_cell_has_its_own_chains(self):
        way = plain((("read", "a", "x"), PUT, GET, ("read", "b", "x"), ("read", "c", "y"), PUT, ("read", "d", "y"), GET,
                     ("read", "e", "x"), ("read", "f", "y")))
        self.assertEqual(values(way), ["x.1", "x.2", "y.1", "y.1", "x.3", "y.1"])

    def test_chains_without_a_read_are_counted(self):
        self.assertEqual(values(plain(code_of("wpgwpgr"))), ["va", "vd", "x.3"])

    def test_many_chains(self):
        code = large((READ, PUT, GET) * 30)
        self.assertEqual(values(follow(code, {})), [f"x.{number}" for number in range(1, 31)])
        self.assertEqual(follow(code, {}).letters[-1], ("get", "get.30"))


class Left(unittest.TestCase):
    def left(self, text, *expected, private=()):
        self.assertEqual(plain(code_of(text), (), private).left, tuple(("x", *pair) for pair in expected), text)

    def test_the_place_is_that_of_the_next_put(self):
        self.left("w", (0, "va"))
        self.left("wp", (0, "va"))
        self.left("wg", (1, "va"))
        self.left("wgp", (1, "va"))
        self.left("wggp", (2, "va"))
        self.left("wgg", (2, "va"))
        self.left("gwp", (1, "vb"))
        self.left("pwp", (1, "vb"))
        self.left("pw", (1, "vb"))
        self.left("pwg", (2, "vb"))
        self.left("gpw", (2, "vc"))
        self.left("pwgpp", (2, "vb"))

    def test_the_last_write_of_a_write_chain_counts(self):
        self.left("ww", (0, "vb"))
        self.left("wpw", (1, "vc"))
        self.left("wgw", (1, "vc"))
        self.left("wgpw", (2, "vd"))
        self.left("wpwp", (1, "vc"))
        self.left("wpwgp", (2, "vc"))

    def test_each_write_chain_leaves_something(self):
        for between, is_parted in BETWEEN.items():
            found = plain(code_of("w" + between + "w")).left
            with self.subTest(between):
                last = ("x", len(between), "v" + "abcdefghij"[len(between) + 1])
                self.assertEqual(found[-1], last)
                first = ("x", between.find("p"), "va")
                self.assertEqual(found, (first, last) if is_parted else (last,))
        self.left("wpgwgpgw", (0, "va"), (3, "vd"), (5, "vh"))

    def test_a_read_between_two_writes_does_not_join_their_write_chains(self):
        self.left("wprgw", (0, "va"), (2, "ve"))
        self.left("wpwgw", (2, "ve"))
        self.assertEqual(values(plain(code_of("wprgwr"))), ["va", "va", "ve", "ve"])

    def test_reads_leave_nothing(self):
        self.left("r")
        self.left("rpgr")
        self.left("")
        self.left("gp")

    def test_what_was_read_can_be_left(self):
        way = plain((READ, ("write", "x", "r"), PUT, GET, READ, ("write", "y", "r")))
        self.assertEqual(way.left, (("x", 0, "x.1"), ("y", 2, "x.2")))

    def test_private_cells_leave_their_content_at_the_end(self):
        self.left("w", (0, "va"), private=("x",))
        self.left("wpg", (2, "va"), private=("x",))
        self.left("wpgw", (2, "vd"), private=("x",))
        self.left("r", (0, "x.1"), private=("x",))
        self.left("pgr", (2, "x.1"), private=("x",))
        self.left("rpgrgp", (4, "x.1"), private=("x",))
        self.left("rwp", (1, "vb"), private=("x",))
        self.left("pg", private=("x",))

    def test_a_private_cell_has_one_chain(self):
        self.assertEqual(values(plain(code_of("rpgwpgr"), (), ("x",))), ["x.1", "vd", "vd"])

    def test_triples_ascend(self):
        way = plain((("write", "z", "c"), PUT, GET, ("write", "a", "b"), ("write", "z", "a"), ("write", "x", "c"),
                     PUT, GET, ("write", "x", "b"), ("read", "r", "d")))
        self.assertEqual(way.left, (("a", 2, "b"), ("x", 2, "c"), ("x", 4, "b"), ("z", 0, "c"), ("z", 2, "a")))

    def test_private_cells_beside_others(self):
        code = (("write", "z", "c"), PUT, GET, ("write", "a", "b"), ("write", "z", "a"), ("read", "r", "d"),
                ("read", "r", "e"), PUT)
        self.assertEqual(plain(code, (), ("d", "q", "z")).left,
                         (("a", 2, "b"), ("d", 3, "d.1"), ("z", 3, "a")))
        self.assertEqual(plain(code, (), ("a", "d", "e", "z")).left,
                         (("a", 3, "b"), ("d", 3, "d.1"), ("e", 3, "e.1"), ("z", 3, "a")))

    def test_private_cells_that_are_not_in_the_stretch(self):
        way = plain(code_of("wpgr"), (), ("a", "b", "y"))
        self.assertEqual((way.private, way.left), (("a", "b", "y"), (("x", 0, "va"),)))
        self.assertEqual(values(way), ["va", "x.2"])


class Answers(unittest.TestCase):
    def test_the_answers_decide(self):
        yes = follow(CHOICE, {("p", "x.1"): True})
        no = follow(CHOICE, {("p", "x.1"): False})
        self.assertEqual((yes.answers, yes.letters, yes.kept), ({("p", "x.1"): True}, (("put", "x.1"),), {"r": "x.1"}))
        self.assertEqual((no.answers, no.letters, no.kept), ({("p", "x.1"): False}, (), {"r": "f(x.1)"}))

    def test_other_pairs_do_not_matter(self):
        answers = {("q", "x.1"): False, ("p", "x.1"): True, ("p", "x.2"): False, ("p", "f(x.1)"): False, ("x", "p"): True}
        self.assertEqual(follow(CHOICE, answers), follow(CHOICE, {("p", "x.1"): True}))
        self.assertEqual(follow(CHOICE, answers).answers, {("p", "x.1"): True})
        self.assertEqual(follow(Stretch((PUT,)), answers).answers, {})

    def test_a_test_can_be_asked_twice_for_the_same_value(self):
        twice = Stretch((("if", "p", "a", (GET,), (PUT,)), ("copy", "b", "a"), ("if", "p", "b", (GET,), (PUT,))))
        self.assertEqual([(way.answers, [kind for kind, _ in way.letters]) for way in ways(twice)],
                         [({("p", "a"): True}, ["get", "get"]), ({("p", "a"): False}, ["put", "put"])])
        self.assertEqual(str(follow(twice, {("p", "a"): True})), "way of 1 answers, 2 letters, 0 accesses")

    def test_other_tests_and_other_values_are_asked_apart(self):
        four = Stretch((("if", "p", "a", (GET,), ()), ("if", "q", "a", (GET,), ())))
        self.assertEqual([tuple(way.answers.values()) for way in ways(four)],
                         [(True, True), (True, False), (False, True), (False, False)])
        four = Stretch((("if", "p", "b", (GET,), ()), ("if", "p", "a", (GET,), ())))
        self.assertEqual([list(way.answers.items()) for way in ways(four)], [
            [(("p", "a"), True), (("p", "b"), True)], [(("p", "a"), False), (("p", "b"), True)],
            [(("p", "a"), True), (("p", "b"), False)], [(("p", "a"), False), (("p", "b"), False)]])

    def test_pairs_ascend(self):
        code = tuple(("if", test, name, (), ()) for test, name in (("q", "a"), ("p", "c"), ("p", "b")))
        for way in ways(Stretch(code)):
            self.assertEqual(list(way.answers), [("p", "b"), ("p", "c"), ("q", "a")])

    def test_ifs_nested_three_deep(self):
        found = [(way.answers, way.letters, values(way)) for way in ways(DEEP)]
        self.assertEqual(found, [
            ({("o", "a"): True, ("p", "a"): True, ("q", "a"): True}, (("put", "a"),), []),
            ({("o", "a"): False, ("p", "a"): True, ("q", "a"): True}, (("get", "get.1"),), []),
            ({("p", "a"): True, ("q", "a"): False}, (), ["x.1"]),
            ({("p", "a"): False}, (), ["a"]),
        ])

    def test_code_behind_an_if_is_done_in_both_cases(self):
        stretch = Stretch((("if", "p", "a", (GET, ("copy", "a", "g")), ()), ("put", "a"), ("if", "p", "a", (GET,), ())))
        self.assertEqual([way.letters for way in ways(stretch)], [
            (("get", "get.1"), ("put", "get.1"), ("get", "get.2")), (("get", "get.1"), ("put", "get.1")), (("put", "a"),)])

    def test_the_first_pair_that_lacks_an_answer(self):
        for answers, lacking in (
            ({}, ("p", "a")),
            ({("q", "a"): True, ("o", "a"): True}, ("p", "a")),
            ({("p", "a"): True}, ("q", "a")),
            ({("p", "b"): True, ("p", "a"): True, ("o", "a"): True}, ("q", "a")),
            ({("p", "a"): True, ("q", "a"): True}, ("o", "a")),
        ):
            with self.subTest(answers), self.assertRaises(Unanswered) as caught:
                follow(DEEP, answers)
            self.assertEqual((caught.exception.test, caught.exception.value), lacking)
        self.assertEqual(len(follow(DEEP, {("p", "a"): False})), 1)
        self.assertEqual(len(follow(DEEP, {("p", "a"): True, ("q", "a"): False})), 1)

    def test_the_value_that_lacks_an_answer(self):
        stretch = Stretch((("get", "a"), ("read", "b", "x"), ("set", "a", "f", ("a", "b")), ("if", "p", "a", (), ())))
        with self.assertRaises(Unanswered) as caught:
            follow(stretch, {("p", "a"): True, ("p", "f(a, b)"): True})
        self.assertEqual((caught.exception.test, caught.exception.value), ("p", "f(get.1, x.1)"))

    def test_private_cells_change_what_is_asked(self):
        stretch = Stretch((WRITE, PUT, GET, READ, ("if", "p", "r", (PUT,), ())))
        self.assertEqual([way.answers for way in ways(stretch)], [{("p", "x.2"): True}, {("p", "x.2"): False}])
        self.assertEqual([way.answers for way in ways(stretch, private=("x",))],
                         [{("p", "a"): True}, {("p", "a"): False}])

    def test_nothing_that_is_passed_is_changed(self):
        answers = {("q", "a"): True, ("p", "x.1"): True}
        follow(CHOICE, answers)
        self.assertEqual(list(answers.items()), [(("q", "a"), True), (("p", "x.1"), True)])

    def test_dicts_are_new_ones_each_time(self):
        answers = {("p", "x.1"): True}
        way = follow(CHOICE, answers)
        answers[("p", "x.1")] = False
        answers.clear()
        way.answers.clear()
        way.answers[("q", "a")] = True
        way.kept["r"] = "a"
        way.kept["s"] = "a"
        self.assertEqual((way.answers, way.kept), ({("p", "x.1"): True}, {"r": "x.1"}))
        self.assertIsNot(way.answers, way.answers)
        self.assertIsNot(way.kept, way.kept)

    def test_a_way_of_a_generator_is_not_changed_by_the_next_one(self):
        found = ways(CHOICE)
        first = next(found)
        first.answers.clear()
        self.assertEqual(next(found), follow(CHOICE, {("p", "x.1"): False}))
        self.assertEqual(first, follow(CHOICE, {("p", "x.1"): True}))


class AllWays(unittest.TestCase):
    def test_a_stretch_without_tests_has_one_way(self):
        for code in ((), (READ, PUT, WRITE, GET)):
            self.assertEqual(list(ways(Stretch(code))), [follow(Stretch(code), {})])

    def test_it_is_a_generator(self):
        self.assertIsInstance(ways(CHOICE), types.GeneratorType)
        found = ways(CHOICE)
        self.assertEqual(next(found).letters, (("put", "x.1"),))
        self.assertEqual(next(found).letters, ())
        with self.assertRaises(StopIteration):
            next(found)

    def test_each_way_is_followed_by_its_answers(self):
        for one, other in some_pairs(1, 60):
            for stretch in (one, other):
                for private in ((), ("x",), ("x", "y")):
                    found = list(ways(stretch, private=private))
                    self.assertEqual([follow(stretch, way.answers, private=private) for way in found], found)

    def test_yes_comes_ahead_of_no(self):
        code = (("if", "p", "a", (), ()), ("if", "q", "a", (("if", "o", "b", (), ()),), (("if", "o", "a", (), ()),)))
        asked = [("p", "a"), ("q", "a"), ("o", "a"), ("o", "b")]
        found = [[way.answers.get(pair) for pair in asked] for way in ways(Stretch(code))]
        self.assertEqual(found, [
            [True, True, None, True], [True, True, None, False], [True, False, True, None], [True, False, False, None],
            [False, True, None, True], [False, True, None, False], [False, False, True, None],
            [False, False, False, None]])

    def test_as_the_document_says(self):
        for one, other in some_pairs(2, 150):
            for stretch in (one, other):
                for private in ((), ("y",), ("x", "y", "z")):
                    def ask(answers, told=stretch, hidden=private):
                        return reference.follow(told.code, told.keeps, answers, hidden)
                    expected = [way for _, way in reference.answered(ask)]
                    found = list(ways(stretch, private=private))
                    self.assertEqual(len(found), len(expected))
                    for way, told in zip(found, expected):
                        self.assertEqual((way.stretch, way.private), (stretch, private))
                        self.assertEqual((way.answers, list(way.letters)), (told["answers"], told["letters"]))
                        self.assertEqual((list(way.accesses), way.kept), (told["accesses"], told["kept"]))
                        self.assertEqual(list(way.left), told["left"])

    def test_stretches_beyond_the_bounds(self):
        one = large((READ, PUT, GET, WRITE) * 10 + tuple(("if", "p", "a" + letter, (PUT,), ()) for letter in "abcde"))
        found = list(ways(one))
        self.assertEqual((one.size, len(found), len(found[0].letters), len(found[31].letters)), (50, 32, 25, 20))
        self.assertEqual(len(found[0]), 20)
        doubled = CHOICE + CHOICE.renamed(cells={"x": "y"}) + CHOICE
        self.assertEqual([tuple(way.answers.items()) for way in ways(doubled)], [
            ((("p", "x.1"), True), (("p", "y.1"), True)), ((("p", "x.1"), True), (("p", "y.1"), False)),
            ((("p", "f(x.1)"), True), (("p", "x.1"), False), (("p", "y.1"), True)),
            ((("p", "f(x.1)"), False), (("p", "x.1"), False), (("p", "y.1"), True)),
            ((("p", "f(x.1)"), True), (("p", "x.1"), False), (("p", "y.1"), False)),
            ((("p", "f(x.1)"), False), (("p", "x.1"), False), (("p", "y.1"), False))])


class Operators(unittest.TestCase):
    def test_the_length_is_the_number_of_accesses(self):
        for text in ("", "p", "r", "rw", "rpgwpr"):
            way = plain(code_of(text))
            self.assertEqual(len(way), len(way.accesses))
            self.assertEqual(len(way), text.count("r") + text.count("w"))

    def test_equal_ways(self):
        self.assertTrue(follow(CHOICE, {("p", "x.1"): True}) == follow(CHOICE, {("p", "x.1"): True, ("q", "a"): True}))
        self.assertFalse(follow(CHOICE, {("p", "x.1"): True}) != next(ways(CHOICE)))
        self.assertEqual(plain(()), plain(()))

    def test_other_ways(self):
        way = follow(CHOICE, {("p", "x.1"): True})
        for other in (
            follow(CHOICE, {("p", "x.1"): False}),
            follow(CHOICE, {("p", "x.1"): True}, private=("x",)),
            follow(CHOICE, {("p", "x.1"): True}, private=("z",)),
            follow(CHOICE.keeping(()), {("p", "x.1"): True}),
            follow(CHOICE + Stretch((("copy", "b", "a"),), ("r",)), {("p", "x.1"): True}),
            plain(()),
        ):
            self.assertIs(way == other, False)
            self.assertIs(way != other, True)

    def test_other_values(self):
        way = plain((PUT,))
        for value in others() + tuples() + no_names() + [CHOICE, way.letters, way.accesses, [way], str(way), 0]:
            if not isinstance(value, Way):
                self.assertIs(way == value, False)
                self.assertIs(value == way, False)
                self.assertIs(way != value, True)

    def test_texts(self):
        for way, text in (
            (plain((PUT, GET, WRITE)), "way of 0 answers, 2 letters, 1 accesses"),
            (next(ways(CHOICE)), "way of 1 answers, 1 letters, 1 accesses"),
            (next(ways(DEEP)), "way of 3 answers, 1 letters, 0 accesses"),
            (follow(CHOICE, {("p", "x.1"): False}, private=("x",)), "way of 1 answers, 0 letters, 2 accesses"),
        ):
            self.assertEqual(str(way), text)

    def test_ways_are_not_iterated_over(self):
        with self.assertRaises(TypeError):
            iter(plain((READ,)))


class Errors(unittest.TestCase):
    STRETCHES = [value for value in others() if not isinstance(value, Stretch)] + tuples() + no_names() + [(), (PUT,)]
    PRIVATE = others() + tuples() + no_names() + ["x", ["x"], {"x": True}, ("y", "x")]

    def test_follow(self):
        check_errors(self, lambda stretch, answers, private: follow(stretch, answers, private=private), [
            (DEEP, self.STRETCHES, InvalidStretch),
            ({}, no_answers(), InvalidOperation),
            ((), self.PRIVATE, InvalidOperation),
        ])

    def test_unanswered_comes_last(self):
        with self.assertRaises(InvalidStretch):
            follow(None, {})
        for call in (lambda: follow(DEEP, {("p", "a"): 1}), lambda: follow(DEEP, {}, private=["x"])):
            with self.assertRaises(InvalidOperation):
                call()
        with self.assertRaises(Unanswered):
            follow(DEEP, {}, private=("x",))

    def test_a_wrong_answer_counts_also_if_it_is_not_asked(self):
        with self.assertRaises(InvalidOperation):
            follow(Stretch(()), {("p", "a"): 0})
        with self.assertRaises(InvalidOperation):
            follow(Stretch(()), {("p", "a"): True, ("p", "get"): True})

    def test_ways_raises_at_the_first_value(self):
        check_errors(self, lambda stretch, private: next(ways(stretch, private=private)), [
            (DEEP, self.STRETCHES, InvalidStretch),
            ((), self.PRIVATE, InvalidOperation),
        ])
        for stretch, private in ((1, ()), (DEEP, 1), (None, None)):
            self.assertIsInstance(ways(stretch, private=private), types.GeneratorType)


if __name__ == "__main__":
    unittest.main()
