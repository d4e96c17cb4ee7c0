import itertools
import random
import unittest

from helper import (
    BAD_PATTERN, LARGE_PATTERN, circle, error_of, star, three_pattern, three_tables, variables_in, whole_graph,
)
from joinhall.cores import alike, core_of
from joinhall.errors import PatternError, TooLarge
from joinhall.maps import contained
from joinhall.meaning import plain_answers
from joinhall.patterns import check_pattern
from joinhall.texts import read_pattern, write_pattern

def folds_into(pattern, atoms):
    """Tell, by trying all images, whether the atoms of a pattern become some of these when
    the variables of its head stay."""
    free = [one for one in variables_in(pattern) if one not in pattern[0]]
    kept = {one for name, names in atoms for one in names}
    if not set(pattern[0]) <= kept:
        return False
    for images in itertools.product(sorted(kept), repeat=len(free)):
        given = dict(zip(pattern[0], pattern[0]), **dict(zip(free, images)))
        if all((name, tuple(given[one] for one in names)) in atoms for name, names in pattern[1]):
            return True
    return False


def core_by_trying(pattern):
    """Return the core, found by trying all sets of places."""
    head, atoms = pattern
    for many in range(1, len(atoms) + 1):
        for places in itertools.combinations(range(len(atoms)), many):
            some = tuple(atoms[place] for place in places)
            if folds_into(pattern, some):
                return (head, some)
    return None


class Cores(unittest.TestCase):
    """Point 1104."""

    def check(self, text, due):
        self.assertEqual(write_pattern(core_of(read_pattern(text))), due)

    def test_atoms_twice(self):
        self.check("x <- on(x), on(x)", "x <- on(x)")
        self.check("x <- on(x), e(x, y), on(x), e(x, y), on(x)", "x <- on(x), e(x, y)")

    def test_its_own_core(self):
        for text in ("<- on(x)", "x, y <- e(x, z), e(z, y)", "<- e(x, y), e(y, z), e(z, x)", "<- e(x, y), e(y, x)",
                     "x, y <- on(x), on(y)", "y, x <- e(x, y), e(y, x)", "<- three(x, y, y), three(y, x, y)"):
            self.check(text, text)

    def test_it_gets_smaller_by_several_atoms(self):
        self.check("x <- e(x, y), e(x, z), e(x, u), e(x, v)", "x <- e(x, y)")
        self.check("<- e(x, y), e(y, z), e(z, u), e(v, v)", "<- e(v, v)")
        self.check("<- e(a, b), e(b, a), e(c, d), e(d, c), e(b, c), e(c, b)", "<- e(a, b), e(b, a)")
        self.check("x <- e(x, y), on(y), e(x, z), e(z, u)", "x <- e(x, y), on(y), e(x, z), e(z, u)")
        self.check("x <- e(x, y), on(y), e(x, z), e(z, u), e(y, u)", "x <- e(x, y), on(y), e(y, u)")

    def test_the_least_places_of_several(self):
        self.check("<- on(z), on(a), on(b)", "<- on(z)")
        self.check("<- e(x, y), on(y), e(u, v), on(v)", "<- e(x, y), on(y)")
        self.check("<- on(y), e(u, v), e(x, y), on(v)", "<- on(y), e(x, y)")
        self.check("<- e(x, y), e(u, v), on(v), on(y)", "<- e(x, y), on(y)")
        self.check("<- e(x, y), off(y), on(v), e(u, v), off(v), on(y)", "<- e(x, y), off(y), on(y)")

    def test_the_head_stays(self):
        self.check("x, y <- on(x), on(y), on(z)", "x, y <- on(x), on(y)")
        self.check("z <- on(x), on(y), on(z)", "z <- on(z)")
        self.check("u <- e(x, y), e(u, v)", "u <- e(u, v)")
        self.check("y, u <- e(x, y), e(u, v), e(u, y)", "y, u <- e(u, y)")
        self.check("v, y <- e(x, y), e(u, v), e(u, y)", "v, y <- e(u, v), e(u, y)")

    def test_full_size(self):
        self.assertEqual(core_of(circle(8)), circle(8))
        self.assertEqual(core_of(star(7)), ((), star(7)[1][:1]))
        self.assertEqual(core_of(whole_graph(4)), whole_graph(4))
        eight = read_pattern("h <- " + ", ".join(f"on({name})" for name in "abcdefgh"))
        self.assertEqual(core_of(eight), (("h",), (("on", ("h",)),)))
        path = ((), circle(8)[1][:7])
        self.assertEqual(core_of(path), path)
        both_ways = tuple(("e", pair) for one in (("a", "b"), ("b", "c"), ("c", "d"), ("d", "a"))
                          for pair in (one, one[::-1]))
        self.assertEqual(core_of(((), both_ways)), ((), both_ways[:2]))

    def test_drawn_ones(self):
        dice = random.Random(1104)
        smaller = 0
        for _ in range(400):
            pattern = three_pattern(dice, 6, 2)
            core = core_of(pattern)
            self.assertEqual(core, core_by_trying(pattern), pattern)
            self.assertIsNone(check_pattern(core))
            smaller += len(core[1]) < len(pattern[1])
            self.assertEqual(core_of(core), core)
            self.assertIs(alike(pattern, core), True)
            for _ in range(3):
                catalogue = three_tables(dice)
                self.assertEqual(plain_answers(catalogue, pattern), plain_answers(catalogue, core))
        self.assertGreater(smaller, 100)
        self.assertLess(smaller, 350)

    def test_errors(self):
        self.assertIs(error_of(core_of, BAD_PATTERN), PatternError)
        self.assertIs(error_of(core_of, LARGE_PATTERN), TooLarge)


class Alike(unittest.TestCase):
    """Point 1104."""

    def check(self, P, R, due):
        self.assertIs(alike(read_pattern(P), read_pattern(R)), due)
        self.assertIs(alike(read_pattern(R), read_pattern(P)), due)

    def test_other_names(self):
        self.check("x <- e(x, y), on(y)", "b <- on(a), e(b, a)", True)
        self.check("x, y <- e(x, z), e(z, y)", "z, x <- e(z, y), e(y, x)", True)
        self.check("<- e(x, y), e(y, x)", "<- e(y, x), e(x, y)", True)

    def test_atoms_that_need_not_be(self):
        self.check("x <- e(x, y)", "x <- e(x, y), e(x, z)", True)
        self.check("<- e(x, x)", "<- e(x, x), e(y, z), e(z, u)", True)

    def test_not_alike(self):
        self.check("x <- e(x, y)", "y <- e(x, y)", False)
        self.check("x, y <- e(x, y)", "y, x <- e(x, y)", False)
        # One is contained in the other, but not the other way round.
        self.check("x <- e(x, y)", "x <- e(x, y), on(y)", False)
        self.check("<- e(x, x)", "<- e(x, y), e(y, x)", False)
        self.check("<- on(x)", "<- off(x)", False)

    def test_drawn_ones(self):
        dice = random.Random(1105)
        for _ in range(300):
            P, R = three_pattern(dice, 6, 2), three_pattern(dice, 6, 2)
            R = (R[0][:len(P[0])], R[1])
            P = (P[0][:len(R[0])], P[1])
            due = contained(P, R)[0] == contained(R, P)[0] == "map"
            self.assertIs(alike(P, R), due)
            images = dict(zip("uvwxy", dice.sample("abcde", 5)))
            other = (tuple(images[one] for one in P[0]),
                     tuple((name, tuple(images[one] for one in names)) for name, names in P[1]))
            self.assertIs(alike(P, (other[0], tuple(dice.sample(other[1], len(other[1]))))), True)

    def test_errors(self):
        fine = read_pattern("<- on(x)")
        self.assertIs(error_of(alike, BAD_PATTERN, LARGE_PATTERN), PatternError)
        self.assertIs(error_of(alike, LARGE_PATTERN, BAD_PATTERN), TooLarge)
        self.assertIs(error_of(alike, fine, BAD_PATTERN), PatternError)
        self.assertIs(error_of(alike, fine, LARGE_PATTERN), TooLarge)
        for P, R in (("<- on(x)", "x <- on(x)"), ("x <- on(x)", "<- on(x)"), ("<- e(x, y)", "<- e(x)"),
                     ("<- on(x), e(x)", "<- off(x), e(x, x)")):
            self.assertIs(error_of(alike, read_pattern(P), read_pattern(R)), PatternError)


if __name__ == "__main__":
    unittest.main()
