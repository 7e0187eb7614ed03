"""Chains, and the places that the accesses of a way cover."""

import unittest

import reference
from orderlymoves.base.stretches import Stretch
from orderlymoves.errors import InvalidNumber, InvalidOperation
from orderlymoves.walk import cover
from orderlymoves.walk.cover import chain_at, chains, covered_places, covering, is_covered, write_chains
from orderlymoves.walk.ways import Way, follow, ways
from samples import check_errors, no_names, others, some_pairs, tuples

SIGNS = {"r": ("read", "b", "x"), "w": ("write", "x", "a"), "R": ("read", "b", "y"), "W": ("write", "y", "a"),
         "g": ("get", "b"), "p": ("put", "a")}
# A way, the places at which it covers reads, and those at which it covers writes.
PLACES = {
    "": ((), ()),
    "pg": ((), ()),
    "r": ((0,), ()),
    "w": ((0,), (0,)),
    # Behind an access each place up to the next put is covered.
    "rp": ((0,), ()),
    "wp": ((0,), (0,)),
    "wg": ((0, 1), (0, 1)),
    "wgg": ((0, 1, 2), (0, 1, 2)),
    "wgp": ((0, 1), (0, 1)),
    "wpg": ((0,), (0,)),
    "wgpg": ((0, 1), (0, 1)),
    # Ahead of an access each place down to the next get is covered.
    "pw": ((0, 1), (0, 1)),
    "gw": ((1,), (1,)),
    "ppr": ((0, 1, 2), ()),
    "gpw": ((1, 2), (1, 2)),
    "pgw": ((2,), (2,)),
    "gpgw": ((3,), (3,)),
    # On both sides.
    "ppwgg": ((0, 1, 2, 3, 4), (0, 1, 2, 3, 4)),
    "gpwgp": ((1, 2, 3), (1, 2, 3)),
    "pgwpg": ((2,), (2,)),
    # Several accesses.
    "wpgw": ((0, 2), (0, 2)),
    "wgpw": ((0, 1, 2), (0, 1, 2)),
    "rpgw": ((0, 2), (2,)),
    "wpgr": ((0, 2), (0,)),
    "rppggr": ((0, 4), ()),
    "rwpgpgwr": ((0, 4), (0, 4)),
    "rgpgpw": ((0, 1, 3, 4), (3, 4)),
}


def way_of(text, private=()):
    return follow(Stretch(tuple(SIGNS[sign] for sign in text)), {}, private=private)


class Interface(unittest.TestCase):
    def test_all_is_defined_in_this_module(self):
        for name in ("covering", "is_covered", "covered_places", "chains", "write_chains", "chain_at"):
            self.assertEqual(getattr(cover, name).__module__, "orderlymoves.walk.cover")


class Places(unittest.TestCase):
    def test_covered_places(self):
        for text, (reads, writes) in PLACES.items():
            with self.subTest(text):
                self.assertEqual(covered_places(way_of(text), "read", "x"), reads)
                self.assertEqual(covered_places(way_of(text), "write", "x"), writes)

    def test_is_covered_at_each_place(self):
        for text, (reads, writes) in PLACES.items():
            way = way_of(text)
            for place in range(len(way.letters) + 1):
                self.assertIs(is_covered(way, "read", "x", place), place in reads, (text, place))
                self.assertIs(is_covered(way, "write", "x", place), place in writes, (text, place))

    def test_covering(self):
        way = way_of("rwpRgrWpw")
        self.assertEqual([covering(way, "read", "x", place) for place in range(4)], [(0, 1), (), (3, 5), (5,)])
        self.assertEqual([covering(way, "write", "x", place) for place in range(4)], [(1,), (), (5,), (5,)])
        self.assertEqual([covering(way, "read", "y", place) for place in range(4)], [(2,), (2,), (2, 4), ()])
        self.assertEqual([covering(way, "write", "y", place) for place in range(4)], [(), (), (4,), ()])

    def test_accesses_on_both_sides_of_a_place(self):
        way = way_of("rgrpr")
        self.assertEqual([covering(way, "read", "x", place) for place in range(3)], [(0,), (0, 1, 2), (2,)])
        way = way_of("wwgpww")
        self.assertEqual([covering(way, "write", "x", place) for place in range(3)], [(0, 1), (0, 1, 2, 3), (2, 3)])

    def test_a_cell_without_an_access(self):
        for text in ("", "r", "wpg", "wgr"):
            way = way_of(text)
            for cell in ("y", "b", "abcdefgh"):
                for kind in ("read", "write"):
                    self.assertEqual(covered_places(way, kind, cell), ())
                    self.assertEqual((covering(way, kind, cell, 0), is_covered(way, kind, cell, 0)), ((), False))
                self.assertEqual((chains(way, cell), write_chains(way, cell)), ((), ()))
                self.assertIsNone(chain_at(way, cell, 0))

    def test_registers_are_no_cells(self):
        self.assertEqual(covered_places(way_of("rw"), "read", "a"), ())

    def test_a_private_cell_is_covered_everywhere_by_the_way_as_a_whole(self):
        for text in ("", "pg", "r", "wpgr", "pwgrpgw"):
            way = way_of(text, ("x", "z"))
            every = tuple(range(len(way.letters) + 1))
            for cell in ("x", "z"):
                for kind in ("read", "write"):
                    self.assertEqual(covered_places(way, kind, cell), every)
                    for place in every:
                        self.assertEqual(covering(way, kind, cell, place), ())
                        self.assertIs(is_covered(way, kind, cell, place), True)
                self.assertEqual([chain_at(way, cell, place) for place in every], [1] * len(every))

    def test_a_cell_beside_a_private_one(self):
        way = way_of("wRpgrW", ("x",))
        self.assertEqual(covered_places(way, "read", "y"), (0, 2))
        self.assertEqual(covered_places(way, "write", "y"), (2,))
        self.assertEqual((chain_at(way, "y", 2), chain_at(way, "x", 2)), (2, 1))


class Chains(unittest.TestCase):
    def test_chains_and_write_chains(self):
        for text, found, writes in (
            ("", (), ()),
            ("r", ((0,),), ()),
            ("rw", ((0, 1),), ((1,),)),
            ("rpgw", ((0,), (1,)), ((1,),)),
            ("wpgr", ((0,), (1,)), ((0,),)),
            ("wprgw", ((0, 1, 2),), ((0,), (2,))),
            ("wpwgw", ((0, 1, 2),), ((0, 1, 2),)),
            ("wgpwppr", ((0, 1, 2),), ((0, 1),)),
            ("wpgrwpgwpgr", ((0,), (1, 2), (3,), (4,)), ((0,), (2,), (3,))),
            ("RrWpgwRW", ((1,), (3,)), ((3,),)),
            ("pgpg", (), ()),
        ):
            with self.subTest(text):
                self.assertEqual((chains(way_of(text), "x"), write_chains(way_of(text), "x")), (found, writes))
        self.assertEqual(chains(way_of("RrWpgwRW"), "y"), ((0, 2), (4, 5)))
        self.assertEqual(write_chains(way_of("RrWpgwRW"), "y"), ((2,), (5,)))

    def test_a_private_cell_has_at_most_one_chain(self):
        for text, found, writes in (("", (), ()), ("r", ((0,),), ()), ("rpgwpgr", ((0, 1, 2),), ((1,),)),
                                    ("wRpgW", ((0,),), ((0,),)), ("wpgwpgw", ((0, 1, 2),), ((0, 1, 2),))):
            way = way_of(text, ("x",))
            self.assertEqual((chains(way, "x"), write_chains(way, "x")), (found, writes))
        self.assertEqual(chains(way_of("RpgR", ("x",)), "y"), ((0,), (1,)))

    def test_chain_at(self):
        for text, found in (
            ("wpgr", [1, None, 2]),
            ("wgpgpgr", [1, 1, None, None, None, 2]),
            ("rpgwpgrpgr", [1, None, 2, None, 3, None, 4]),
            ("wprgw", [1, 1, 1]),
            ("pgr", [None, None, 1]),
            ("", [None]),
            ("rg", [1, 1]),
        ):
            way = way_of(text)
            self.assertEqual([chain_at(way, "x", place) for place in range(len(way.letters) + 1)], found, text)

    def test_the_place_behind_the_last_letter(self):
        way = way_of("pgw")
        self.assertEqual((covering(way, "write", "x", 2), chain_at(way, "x", 2)), ((0,), 1))
        self.assertIs(is_covered(way, "read", "x", 2), True)


class Promises(unittest.TestCase):
    def found_ways(self):
        for one, other in some_pairs(3, 120):
            for stretch in (one, other):
                yield from ways(stretch)
                yield from ways(stretch, private=("x",))

    def test_as_the_document_says(self):
        for way in self.found_ways():
            told = {"letters": way.letters, "accesses": way.accesses, "private": way.private}
            places = range(len(way.letters) + 1)
            for cell in ("x", "y", "z"):
                self.assertEqual(chains(way, cell), reference.chains(told, cell))
                self.assertEqual(write_chains(way, cell), reference.chains(told, cell, ("write",)))
                for kind in ("read", "write"):
                    found = [reference.covering(told, kind, cell, place) for place in places]
                    self.assertEqual([covering(way, kind, cell, place) for place in places], found)
                    is_private = cell in way.private
                    covered = tuple(place for place in places if found[place] or is_private)
                    self.assertEqual(covered_places(way, kind, cell), covered)
                    for place in places:
                        self.assertIs(is_covered(way, kind, cell, place), place in covered)

    def test_what_covers_one_access_belongs_to_one_chain(self):
        for way in self.found_ways():
            for cell in {"x", "y"} - set(way.private):
                for place in range(len(way.letters) + 1):
                    found = covering(way, "read", cell, place)
                    owners = [number for number, chain in enumerate(chains(way, cell), start=1)
                              if set(found) & set(chain)]
                    self.assertEqual(owners, [chain_at(way, cell, place)] if found else [])
                    writes = covering(way, "write", cell, place)
                    self.assertLessEqual(set(writes), set(found))
                    self.assertLessEqual(sum(bool(set(writes) & set(chain)) for chain in write_chains(way, cell)), 1)

    def test_what_is_covered_by_covered_accesses_is_covered(self):
        texts = ["".join(text) for text in ("rpgw", "wpgr", "pwgr", "prgw", "pgrw", "wrpg", "rpwg", "wprg", "pg", "rpg",
                                            "pwg", "pgw", "prg", "wpg", "pgr")]
        met = 0
        for one in map(way_of, texts):
            for other in map(way_of, texts):
                if all(is_covered(one, kind, cell, place) for kind, cell, place, _ in other.accesses):
                    met += 1
                    for kind in ("read", "write"):
                        self.assertLessEqual(set(covered_places(other, kind, "x")), set(covered_places(one, kind, "x")))
        self.assertGreater(met, 40)

    def test_each_access_covers_its_own_place(self):
        for way in self.found_ways():
            for at, (kind, cell, place, _) in enumerate(way.accesses):
                if cell not in way.private:
                    self.assertIn(at, covering(way, kind, cell, place))


class Errors(unittest.TestCase):
    WAY = way_of("rpgw")
    WAYS = [value for value in others() if not isinstance(value, Way)] + tuples() + no_names() + [WAY.letters, [WAY]]
    KINDS = others() + tuples() + no_names() + ["reads", "Read", "read ", "get", ("read",), ["write"], WAY]
    NAMES = others() + tuples() + no_names() + [("x",), ["x"], WAY]
    PLACES = [-1, 3, 4, True, False, None, "0", "", "x", (), (0,), [], [0], {}, {0: 1}, 10 ** 40 - 1, -(10 ** 39), WAY,
              WAY.stretch]

    def test_covering_and_is_covered(self):
        for call in (covering, is_covered):
            check_errors(self, call, [
                (self.WAY, self.WAYS, InvalidOperation), ("read", self.KINDS, InvalidOperation),
                ("x", self.NAMES, InvalidOperation), (0, self.PLACES, InvalidNumber)])

    def test_covered_places(self):
        check_errors(self, covered_places, [
            (self.WAY, self.WAYS, InvalidOperation), ("write", self.KINDS, InvalidOperation),
            ("x", self.NAMES, InvalidOperation)])

    def test_chains_and_write_chains(self):
        for call in (chains, write_chains):
            check_errors(self, call, [(self.WAY, self.WAYS, InvalidOperation), ("x", self.NAMES, InvalidOperation)])

    def test_chain_at(self):
        check_errors(self, chain_at, [
            (self.WAY, self.WAYS, InvalidOperation), ("x", self.NAMES, InvalidOperation),
            (0, self.PLACES, InvalidNumber)])

    def test_the_number_is_kept(self):
        for way in (self.WAY, way_of("rpgw", ("x",))):
            for wrong in self.PLACES:
                for call in (lambda: covering(way, "read", "x", wrong), lambda: is_covered(way, "write", "x", wrong),
                             lambda: chain_at(way, "x", wrong), lambda: chain_at(way, "y", wrong)):
                    with self.subTest(wrong=wrong), self.assertRaises(InvalidNumber) as caught:
                        call()
                    self.assertEqual(caught.exception.value, wrong)
                    self.assertIs(type(caught.exception.value), type(wrong))

    def test_the_number_of_letters_is_a_place_and_no_more(self):
        for text in ("", "p", "gg", "rpgw"):
            way = way_of(text)
            many = len(way.letters)
            self.assertIn(covering(way, "read", "y", many), [()])
            with self.assertRaises(InvalidNumber):
                covering(way, "read", "y", many + 1)
            with self.assertRaises(InvalidNumber):
                chain_at(way, "y", many + 1)


if __name__ == "__main__":
    unittest.main()
