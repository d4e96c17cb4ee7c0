import itertools
import random
import unittest

from helper import (
    BAD_CATALOGUE, BAD_PATTERN, LARGE_CATALOGUE, LARGE_PATTERN, circle, error_of, is_plain,
    large_pattern, random_case, star, table_with, variables_in, whole_graph,
)
from joinhall.covers import best_cover, bound_of, bounds_along, check_cover, check_packing, within
from joinhall.errors import CatalogueError, CoverError, OrderError, PatternError, TooLarge, UnknownTable, VariableError
from joinhall.joins import join
from joinhall.ratios import fraction, minus, plus, total
from joinhall.texts import read_pattern

TRIANGLE = circle(3)
HALVES = ((1, 2), (1, 2), (1, 2))
PATH = read_pattern("<- e(x, y), e(y, z)")
TWICE = read_pattern("<- e(x, x), f(x, y, x)")


def is_cover(pattern, chosen, cover):
    """Tell the same as check_cover, with all fractions over one denominator."""
    whole = 1
    for _, denominator in cover:
        whole *= denominator
    parts = [n * whole // d for n, d in cover]
    sums = [sum(part for part, (_, names) in zip(parts, pattern[1]) if name in names) for name in chosen]
    return len(cover) == len(pattern[1]) and min(parts) >= 0 and all(one >= whole for one in sums)


def is_packing(pattern, chosen, packing):
    """Tell the same as check_packing, with all fractions over one denominator."""
    whole = 1
    for _, denominator in packing:
        whole *= denominator
    parts = [n * whole // d for n, d in packing]
    sums = [sum(part for part, name in zip(parts, chosen) if name in names) for _, names in pattern[1]]
    return len(packing) == len(chosen) and min(parts, default=0) >= 0 and all(one <= whole for one in sums)


class BestCovers(unittest.TestCase):
    """Points 601 and 602."""

    def check(self, pattern, chosen, due=None):
        found = best_cover(pattern, chosen)
        self.assertTrue(is_plain(found))
        cover, packing = found
        self.assertEqual([fraction(n, d) for n, d in cover + packing], list(cover + packing))
        self.assertTrue(is_cover(pattern, chosen, cover), (pattern, chosen, cover))
        self.assertTrue(is_packing(pattern, chosen, packing), (pattern, chosen, packing))
        self.assertIs(check_cover(pattern, chosen, cover), True)
        self.assertIs(check_packing(pattern, chosen, packing), True)
        self.assertEqual(total(cover), total(packing))
        if due is not None:
            self.assertEqual(total(cover), due)

    def test_triangle(self):
        self.assertEqual(best_cover(TRIANGLE, ("a", "b", "c")), (HALVES, HALVES))
        pattern = ((), (("e", ("x", "y")), ("e", ("y", "z")), ("e", ("z", "x"))))
        self.assertEqual(best_cover(pattern, ("x", "y", "z"))[0], HALVES)

    def test_circles(self):
        for size in range(3, 9):
            self.check(circle(size), tuple("abcdefgh"[:size]), fraction(size, 2))

    def test_stars(self):
        for leaves in range(1, 8):
            self.check(star(leaves), ("z",) + tuple("abcdefgh"[:leaves]), (leaves, 1))
            self.check(star(leaves), ("z",), (1, 1))

    def test_whole_graphs(self):
        for size in range(2, 5):
            self.check(whole_graph(size), tuple("abcdefgh"[:size]), fraction(size, 2))

    def test_three_together(self):
        # Each three of four variables: a third of each atom.
        pattern = ((), tuple(("t", three) for three in itertools.combinations("abcd", 3)))
        self.assertEqual(best_cover(pattern, tuple("abcd")), (((1, 3),) * 4, ((1, 3),) * 4))

    def test_atom_over_all_variables(self):
        pattern = ((), (("e", ("a", "b")), ("t", ("a", "b", "c")), ("e", ("c", "a"))))
        self.check(pattern, ("a", "b", "c"), (1, 1))

    def test_chosen_variables(self):
        self.assertEqual(best_cover(TRIANGLE, ()), (((0, 1), (0, 1), (0, 1)), ()))
        for chosen in itertools.permutations("abc", 2):
            self.check(TRIANGLE, chosen, (1, 1))
        for chosen in itertools.permutations("abc", 3):
            self.check(TRIANGLE, chosen, (3, 2))
        # a and c of the path a, b, c, d stand in no atom together.
        pattern = read_pattern("<- e(a, b), e(b, c), e(c, d)")
        self.check(pattern, ("c", "a"), (2, 1))
        self.check(pattern, ("c", "b"), (1, 1))

    def test_variable_several_times_in_an_atom(self):
        self.assertEqual(best_cover(read_pattern("<- e(x, x)"), ("x",)), (((1, 1),), ((1, 1),)))
        self.check(TWICE, ("x", "y"), (1, 1))

    def test_no_table_is_needed(self):
        self.check(read_pattern("x <- none(x)"), ("x",), (1, 1))

    def test_drawn_patterns(self):
        dice = random.Random(602)
        for _ in range(300):
            pattern = large_pattern(dice)
            variables = variables_in(pattern)
            self.check(pattern, variables)
            self.check(pattern, tuple(dice.sample(variables, dice.randint(0, len(variables)))))

    def test_full_size(self):
        names = "abcdefgh"
        for step in (1, 2, 3):
            for columns in (2, 3, 4):
                atoms = tuple(("t", tuple(names[(at + step * n) % 8] for n in range(columns))) for at in range(8))
                self.check(((), atoms), tuple(names))

    def test_errors(self):
        for chosen in (("a", "a"), ("a", "b", "a"), ("d",), ("a", "d"), ("e",)):
            self.assertIs(error_of(best_cover, TRIANGLE, chosen), VariableError, chosen)
            self.assertIs(error_of(check_cover, TRIANGLE, chosen, HALVES), VariableError, chosen)
            self.assertIs(error_of(check_packing, TRIANGLE, chosen, HALVES), VariableError, chosen)
        for pattern, due in ((BAD_PATTERN, PatternError), (LARGE_PATTERN, TooLarge)):
            self.assertIs(error_of(best_cover, pattern, ("a", "a")), due)
            self.assertIs(error_of(check_cover, pattern, ("a", "a"), ()), due)
            self.assertIs(error_of(check_packing, pattern, ("a", "a"), ()), due)


class Judges(unittest.TestCase):
    """Points 601 and 602."""

    def test_covers(self):
        all_three = ("a", "b", "c")
        self.assertIs(check_cover(TRIANGLE, all_three, HALVES), True)
        self.assertIs(check_cover(TRIANGLE, all_three, ((1, 1), (1, 1), (0, 1))), True)
        self.assertIs(check_cover(TRIANGLE, all_three, ((1, 3), (2, 3), (2, 3))), True)
        self.assertIs(check_cover(TRIANGLE, all_three, ((5, 1), (7, 2), (9, 1))), True)
        for cover in ((), HALVES[:2], HALVES + ((1, 2),), ((1, 1), (0, 1), (0, 1)), ((1, 2), (1, 2), (49, 100)),
                      ((1, 3), (2, 3), (1, 2)), ((2, 1), (2, 1), (-1, 1)), ((-1, 9), (5, 1), (5, 1))):
            self.assertIs(check_cover(TRIANGLE, all_three, cover), False, cover)

    def test_covers_of_some_variables(self):
        self.assertIs(check_cover(TRIANGLE, ("b",), ((1, 1), (0, 1), (0, 1))), True)
        self.assertIs(check_cover(TRIANGLE, ("c", "b"), ((0, 1), (1, 1), (0, 1))), True)
        self.assertIs(check_cover(TRIANGLE, ("a", "b"), ((0, 1), (1, 1), (0, 1))), False)
        self.assertIs(check_cover(TRIANGLE, (), ((0, 1), (0, 1), (0, 1))), True)
        self.assertIs(check_cover(TRIANGLE, (), ((0, 1), (0, 1))), False)
        self.assertIs(check_cover(TRIANGLE, (), ((0, 1), (0, 1), (-1, 2))), False)

    def test_packings(self):
        all_three = ("a", "b", "c")
        self.assertIs(check_packing(TRIANGLE, all_three, HALVES), True)
        self.assertIs(check_packing(TRIANGLE, all_three, ((0, 1), (1, 1), (0, 1))), True)
        self.assertIs(check_packing(TRIANGLE, all_three, ((0, 1), (0, 1), (0, 1))), True)
        for packing in ((), HALVES[:2], HALVES + ((0, 1),), ((1, 2), (1, 2), (51, 100)), ((1, 1), (1, 1), (0, 1)),
                        ((-1, 2), (0, 1), (0, 1)), ((-1, 1), (1, 1), (0, 1))):
            self.assertIs(check_packing(TRIANGLE, all_three, packing), False, packing)

    def test_packings_of_some_variables(self):
        self.assertIs(check_packing(TRIANGLE, (), ()), True)
        self.assertIs(check_packing(TRIANGLE, (), ((0, 1),)), False)
        self.assertIs(check_packing(TRIANGLE, ("b",), ((1, 1),)), True)
        self.assertIs(check_packing(TRIANGLE, ("b",), ((3, 2),)), False)
        self.assertIs(check_packing(PATH, ("z", "x"), ((1, 1), (1, 1))), True)
        self.assertIs(check_packing(PATH, ("z", "y"), ((1, 1), (1, 1))), False)

    def test_each_variable_counts_once_in_an_atom(self):
        self.assertIs(check_packing(TWICE, ("x",), ((1, 1),)), True)
        self.assertIs(check_packing(TWICE, ("y", "x"), ((1, 3), (2, 3))), True)
        self.assertIs(check_packing(TWICE, ("y", "x"), ((1, 2), (2, 3))), False)
        self.assertIs(check_cover(TWICE, ("x",), ((1, 2), (0, 1))), False)
        self.assertIs(check_cover(TWICE, ("x",), ((1, 2), (1, 2))), True)

    def test_changed_fractions(self):
        dice = random.Random(601)
        for _ in range(300):
            pattern = large_pattern(dice)
            variables = variables_in(pattern)
            chosen = tuple(dice.sample(variables, dice.randint(1, len(variables))))
            cover, packing = best_cover(pattern, chosen)
            change = dice.choice((plus, minus))
            step = fraction(1, dice.randint(1, 4))
            at = dice.randrange(len(cover))
            changed = cover[:at] + (change(cover[at], step),) + cover[at + 1:]
            self.assertIs(check_cover(pattern, chosen, changed), is_cover(pattern, chosen, changed))
            at = dice.randrange(len(packing))
            changed = packing[:at] + (change(packing[at], step),) + packing[at + 1:]
            self.assertIs(check_packing(pattern, chosen, changed), is_packing(pattern, chosen, changed))


class Bounds(unittest.TestCase):
    """Point 603."""

    HALL = (("e", 2, ((1, 1), (1, 2), (2, 3))), ("none", 1, ()), table_with(5, "v"), table_with(10, "w"))

    def bound(self, text, *cover):
        return bound_of(self.HALL, read_pattern(text), cover)

    def test_bounds(self):
        self.assertEqual(self.bound("<- e(x, y), e(y, z), e(z, x)", *HALVES), (2, 27))
        self.assertEqual(self.bound("<- e(x, y), v(y)", (1, 1), (1, 1)), (1, 15))
        self.assertEqual(self.bound("<- e(x, y), v(y), w(y)", (1, 2), (1, 3), (0, 1)), (6, 27 * 25))
        self.assertEqual(self.bound("<- v(x), w(x)", (3, 4), (1, 6)), (12, 5 ** 9 * 10 ** 2))
        self.assertEqual(self.bound("<- v(x), w(x)", (2, 1), (3, 2)), (2, 5 ** 4 * 10 ** 3))
        self.assertTrue(is_plain(self.bound("<- v(x), w(x)", (3, 4), (1, 6))))

    def test_head_and_cover_need_not_go_together(self):
        # Any fractions have a bound, whether they are a cover of all variables or not.
        self.assertEqual(self.bound("x <- v(x)", (0, 1)), (1, 1))
        self.assertEqual(self.bound("<- e(x, y), v(z)", (0, 1), (1, 7)), (7, 5))

    def test_empty_tables(self):
        self.assertEqual(self.bound("<- none(x)", (0, 1)), (1, 1))
        self.assertEqual(self.bound("<- none(x)", (1, 1)), (1, 0))
        self.assertEqual(self.bound("<- none(x), v(x)", (1, 2), (1, 2)), (2, 0))
        self.assertEqual(self.bound("<- none(x), v(x)", (0, 1), (1, 2)), (2, 5))

    def test_errors(self):
        for cover in ((), ((1, 1),), HALVES, ((1, 1), (-1, 2)), ((-1, 2), (1, 1)), ((65, 1), (0, 1)), ((0, 1), (65, 64)),
                      ((1, 65), (1, 1)), ((1, 2), (33, 1)), ((1, 2), (65, 2)), ((1, 5), (65, 13))):
            self.assertIs(error_of(self.bound, "<- v(x), w(x)", *cover), CoverError, cover)
        self.assertEqual(self.bound("<- v(x), w(x)", (64, 1), (0, 1)), (1, 5 ** 64))
        self.assertEqual(self.bound("<- v(x), w(x)", (1, 64), (1, 1)), (64, 5 * 10 ** 64))
        self.assertEqual(self.bound("<- v(x), w(x)", (32, 1), (1, 2)), (2, 5 ** 64 * 10))
        self.assertEqual(self.bound("<- v(x), w(x)", (1, 10 ** 30), (0, 1)), (10 ** 30, 5))

    def test_which_error_comes_first(self):
        for pattern in (PATH, BAD_PATTERN, LARGE_PATTERN):
            self.assertIs(error_of(bound_of, BAD_CATALOGUE, pattern, ()), CatalogueError)
            self.assertIs(error_of(bound_of, LARGE_CATALOGUE, pattern, ()), TooLarge)
        self.assertIs(error_of(bound_of, self.HALL, BAD_PATTERN, ()), PatternError)
        self.assertIs(error_of(bound_of, self.HALL, LARGE_PATTERN, ()), TooLarge)
        self.assertIs(error_of(bound_of, (), PATH, ()), UnknownTable)
        self.assertIs(error_of(self.bound, "<- v(x), off(x)"), UnknownTable)
        self.assertIs(error_of(self.bound, "<- v(x), e(x)"), PatternError)

    def test_within(self):
        for number, bound in ((5, (2, 27)), (3, (3, 27)), (27, (1, 27)), (0, (1, 0)), (0, (9, 1)), (1, (9, 1)), (1, (3, 5))):
            self.assertIs(within(number, bound), True, (number, bound))
        for number, bound in ((6, (2, 27)), (4, (3, 27)), (28, (1, 27)), (1, (1, 0)), (2, (1, 0)), (1, (7, 0)), (2, (2, 3))):
            self.assertIs(within(number, bound), False, (number, bound))

    def test_within_around_the_root(self):
        for root in range(2, 30):
            for q in range(1, 20):
                for limit in (root ** q - 1, root ** q, root ** q + 1):
                    self.assertIs(within(root, (q, limit)), root ** q <= limit)
                    self.assertIs(within(root - 1, (q, limit)), True)
                    self.assertIs(within(root + 1, (q, limit)), (root + 1) ** q <= limit)

    def test_within_does_not_work_out_what_is_far_above(self):
        self.assertIs(within(2, (10 ** 30, 300 ** 512)), False)
        self.assertIs(within(20000, (10 ** 30, 5)), False)
        self.assertIs(within(1, (10 ** 30, 5)), True)
        self.assertIs(within(0, (10 ** 30, 0)), True)


class BoundsAlong(unittest.TestCase):
    """Point 604."""

    def check(self, catalogue, pattern, order):
        found = bounds_along(catalogue, pattern, order)
        self.assertTrue(is_plain(found))
        self.assertEqual(len(found), len(order))
        visits = join(catalogue, pattern, order)[1]
        for k, (cover, packing, bound) in enumerate(found):
            chosen = order[:k + 1]
            self.assertTrue(is_cover(pattern, chosen, cover))
            self.assertTrue(is_packing(pattern, chosen, packing))
            self.assertEqual(total(cover), total(packing))
            self.assertEqual(bound, bound_of(catalogue, pattern, cover))
            self.assertTrue(within(visits[k], bound), (catalogue, pattern, order, k))
        return found

    def test_triangle(self):
        rows = tuple(itertools.product(range(4), repeat=2))
        found = self.check((("e", 2, rows),), TRIANGLE, ("a", "b", "c"))
        self.assertEqual([total(cover) for cover, packing, bound in found], [(1, 1), (1, 1), (3, 2)])
        # This one is reached: 64 partial answers, and 64 ** 2 is 16 ** 3.
        self.assertEqual(found[2], (HALVES, HALVES, (2, 4096)))
        self.assertFalse(within(65, found[2][2]))

    def test_drawn_ones(self):
        dice = random.Random(604)
        for _ in range(150):
            catalogue, pattern = random_case(dice)
            order = list(variables_in(pattern))
            dice.shuffle(order)
            self.check(catalogue, pattern, tuple(order))

    def test_full_size(self):
        hall = (("e", 2, tuple((n, n) for n in range(300))),)
        self.check(hall, circle(8), tuple("abcdefgh"))
        # No visits need to be counted for the bounds.
        pattern = read_pattern("<- " + ", ".join(f"t({name})" for name in "abcdefgh"))
        found = bounds_along((table_with(300),), pattern, tuple("hgfedcba"))
        self.assertEqual([bound for cover, packing, bound in found], [(1, 300 ** k) for k in range(1, 9)])

    def test_errors(self):
        hall = (("e", 2, ()),)
        for order in ((), ("x",), ("x", "y"), ("x", "y", "y"), ("x", "y", "z", "z"), ("x", "y", "w")):
            self.assertIs(error_of(bounds_along, hall, PATH, order), OrderError, order)
        for pattern in (PATH, BAD_PATTERN, LARGE_PATTERN):
            self.assertIs(error_of(bounds_along, BAD_CATALOGUE, pattern, ()), CatalogueError)
            self.assertIs(error_of(bounds_along, LARGE_CATALOGUE, pattern, ()), TooLarge)
        self.assertIs(error_of(bounds_along, hall, BAD_PATTERN, ()), PatternError)
        self.assertIs(error_of(bounds_along, hall, LARGE_PATTERN, ()), TooLarge)
        self.assertIs(error_of(bounds_along, (), PATH, ()), UnknownTable)
        self.assertIs(error_of(bounds_along, hall, read_pattern("<- e(x)"), ()), PatternError)


if __name__ == "__main__":
    unittest.main()
