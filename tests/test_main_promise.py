"""The main promise: what programs show with a stretch, and with another one that may stand for it."""

import random
import unittest

from orderlymoves.base.stretches import Stretch
from orderlymoves.judge.stand import may_stand
from orderlymoves.walk.ways import ways
from programs import outcome
from samples import CELLS, some_code, some_pairs

BEHIND = (("put", "a"), ("write", "x", "a"))
AHEAD = (("write", "x", "a"), ("put", "a"))
WAIT = (("get", "r"), ("read", "s", "x"), ("show", "r"), ("show", "s"))
EARLY = (("read", "s", "x"), ("get", "r"), ("show", "r"), ("show", "s"))


def some_partner(rng, way, cells):
    """Code of another thread that takes and sends letters as a way needs it, and looks at cells."""
    found = some_looks(rng, cells)
    for at, (kind, _) in enumerate(way.letters):
        found += [("get", "m"), ("show", "m")] if kind == "put" else [("put", "abcdefg"[at] + "y")]
        found += some_looks(rng, cells)
    if rng.random() < 0.2:
        found += [("get", "m"), ("show", "m")]
    return tuple(found)


def some_looks(rng, cells):
    found = []
    for cell in rng.choices(cells, k=rng.choice((0, 0, 1, 2))) if cells else ():
        found += [[("read", "m", cell), ("show", "m")], [("write", cell, rng.choice("nopq") + "z")]][rng.random() < 0.5]
    return found


def some_code_behind(rng, stretch):
    """Code that shows the kept registers, and the cells, perhaps behind a further letter."""
    found = [("show", name) for name in stretch.keeps] + [("put", "endz")] * (rng.random() < 0.5)
    found += [("get", "m"), ("show", "m")] * (rng.random() < 0.3)
    for cell in CELLS:
        found += [("read", "m", cell), ("show", "m")] * (rng.random() < 0.5)
    return tuple(found)


class Promise(unittest.TestCase):
    def test_no_orderly_program_sees_what_may_stand(self):
        rng = random.Random(14)
        met = 0
        for at, (one, other) in enumerate(some_pairs(15, 500)):
            private = ((), (), ("x",), ("y",), ("x", "y"))[at % 5]
            if one != other and may_stand(one, other, private=private):
                met += sum(self.is_unseen(rng, one, other, private) for _ in range(6))
        self.assertGreater(met, 400)

    def is_unseen(self, rng, one, other, private):
        """Checks some program, and tells whether it was orderly."""
        salt, way = rng.randrange(30), rng.choice(list(ways(one, private=private)))
        cells = [cell for cell in CELLS if cell not in private]
        ahead, behind = (("get", "m"),) * (rng.random() < 0.1), some_code_behind(rng, one)
        threads = [some_partner(rng, way, cells)]
        if rng.random() < 0.2:
            threads.append(some_code(rng, rng.randint(0, 3)) if not private else (("put", "a"),))
        shown = outcome((ahead + one.code + behind, *threads), salt)
        if shown is None:
            return False
        self.assertEqual(len(shown), 1)
        self.assertEqual(outcome((ahead + other.code + behind, *threads), salt), shown)
        return True

    def test_some_program_sees_most_others(self):
        rng = random.Random(16)
        refused = [pair for pair in some_pairs(17, 150) if not may_stand(*pair)]
        seen = sum(any(self.is_seen(rng, one, other) for _ in range(150)) for one, other in refused)
        self.assertGreater(len(refused), 50)
        self.assertGreaterEqual(seen, len(refused) - 5)

    def is_seen(self, rng, one, other):
        salt, way, behind = rng.randrange(30), rng.choice(list(ways(one))), some_code_behind(rng, one)
        partner = some_partner(rng, way, CELLS)
        shown = outcome((one.code + behind, partner), salt)
        return shown is not None and outcome((other.code + behind, partner), salt) != shown

    def test_the_program_of_the_document(self):
        look = (("get", "b"), ("read", "c", "x"), ("show", "c"))
        self.assertEqual(outcome((AHEAD, look), 0), {((), ("a",))})
        self.assertIsNone(outcome((BEHIND, look), 0))
        self.assertIs(may_stand(Stretch(AHEAD), Stretch(BEHIND)), False)
        tell = (("write", "x", "b"), ("put", "c"))
        self.assertEqual(outcome((WAIT, tell), 0), {(("c", "b"), ())})
        self.assertIsNone(outcome((EARLY, tell), 0))


if __name__ == "__main__":
    unittest.main()
