import itertools
import random
import unittest

from helper import (
    BAD_CATALOGUE, BAD_PATTERN, LARGE_CATALOGUE, LARGE_PATTERN, circle, error_of, is_plain,
    partials_by_trying, random_case, star, table_with, variables_in,
)
from joinhall import joins
from joinhall.errors import CatalogueError, OrderError, PatternError, TooLarge, UnknownTable
from joinhall.joins import answers, join, orders_by_visits
from joinhall.meaning import plain_answers
from joinhall.texts import read_pattern

HALL = (
    ("edge", 2, ((1, 2), (2, 2), (2, 3), (3, 1), (5, 5))),
    ("none", 2, ()),
    ("on", 1, ((-4,), (2,), (3,))),
    ("three", 3, ((1, 1, 2), (1, 2, 1), (2, 2, 2), (4, 3, 3))),
    ("up", 2, ((1, 2), (3, 4))),
)
TRIANGLE = "<- edge(x, y), edge(y, z), edge(z, x)"


def visit(text, *order):
    return join(HALL, read_pattern(text), order)


def unary(**sizes):
    """Return a catalogue of tables with one column and so many rows each."""
    return tuple(table_with(size, name) for name, size in sorted(sizes.items()))


def matching(size):
    """Return a catalogue whose table e has a row (n, n) for so many n."""
    return (("e", 2, tuple((n, n) for n in range(size))),)


class Joins(unittest.TestCase):
    """Points 501 and 502."""

    def test_constant(self):
        self.assertEqual(joins.VISIT_LIMIT, 20000)

    def test_one_atom(self):
        self.assertEqual(visit("<- edge(x, y)", "x", "y"), (HALL[0][2], (4, 5)))
        due = ((1, 3), (2, 1), (2, 2), (3, 2), (5, 5))
        self.assertEqual(visit("<- edge(x, y)", "y", "x"), (due, (4, 5)))
        self.assertEqual(visit("<- on(x)", "x"), (((-4,), (2,), (3,)), (3,)))

    def test_triangle(self):
        rows = ((1, 2, 3), (2, 2, 2), (2, 3, 1), (3, 1, 2), (5, 5, 5))
        self.assertEqual(visit(TRIANGLE, "x", "y", "z"), (rows, (4, 5, 5)))

    def test_partial_answers_that_lead_nowhere_are_visited(self):
        # As long as y has no integer, x may be 1, 2, 3 or 5: some row of each atom fits.
        self.assertEqual(visit("<- edge(x, y), on(y)", "x", "y"), (((1, 2), (2, 2), (2, 3)), (4, 3)))
        self.assertEqual(visit("<- edge(x, y), on(y)", "y", "x"), (((2, 1), (2, 2), (3, 2)), (2, 3)))
        # No integer stands in both columns of `up`, but in one of them each of 1, 2, 3 and 4.
        self.assertEqual(visit("<- up(x, y), up(y, z)", "x", "y", "z"), ((), (2, 0, 0)))
        self.assertEqual(visit("<- up(x, y), up(y, z)", "x", "z", "y"), ((), (2, 4, 0)))
        self.assertEqual(visit("<- up(x, y), up(y, z)", "y", "x", "z"), ((), (0, 0, 0)))

    def test_variable_several_times_in_an_atom(self):
        self.assertEqual(visit("<- edge(x, x)", "x"), (((2,), (5,)), (2,)))
        # Of three(x, y, y) the rows (2, 2, 2) and (4, 3, 3) count, whichever comes first.
        self.assertEqual(visit("<- three(x, y, y)", "x", "y"), (((2, 2), (4, 3)), (2, 2)))
        self.assertEqual(visit("<- three(x, y, y)", "y", "x"), (((2, 2), (3, 4)), (2, 2)))
        self.assertEqual(visit("<- three(y, x, y)", "x", "y"), (((2, 1), (2, 2)), (1, 2)))
        self.assertEqual(visit("<- on(x), up(y, y)", "x", "y"), ((), (0, 0)))

    def test_atom_without_rows_that_has_none_of_the_first_variables(self):
        self.assertEqual(visit("<- on(x), none(y, z)", "x", "y", "z"), ((), (0, 0, 0)))
        self.assertEqual(visit("<- none(y, z), on(x)", "x", "z", "y"), ((), (0, 0, 0)))
        self.assertEqual(visit("<- on(x), edge(y, z)", "x", "y", "z")[1], (3, 12, 15))

    def test_the_head_does_not_matter(self):
        due = visit(TRIANGLE, "z", "x", "y")
        for head in ("", "x ", "y, x ", "z, y, x "):
            self.assertEqual(visit(head + TRIANGLE, "z", "x", "y"), due)

    def test_against_trying_all(self):
        dice = random.Random(501)
        for _ in range(150):
            catalogue, pattern = random_case(dice)
            order = list(variables_in(pattern))
            dice.shuffle(order)
            due = partials_by_trying(catalogue, pattern, order)
            found = join(catalogue, pattern, tuple(order))
            self.assertEqual(found, (tuple(due[-1]), tuple(map(len, due))), (catalogue, pattern, order))
            self.assertTrue(is_plain(found))

    def test_order_errors(self):
        for order in ((), ("x",), ("x", "x"), ("x", "y", "y"), ("x", "y", "z"), ("x", "z"), ("y", "z", "x"), ("x", "X")):
            self.assertIs(error_of(visit, "x <- edge(x, y)", *order), OrderError, order)

    def test_visits_above_the_limit(self):
        pair = read_pattern("<- a(x), b(y)")
        rows, visits = join(unary(a=200, b=100), pair, ("x", "y"))
        self.assertEqual((len(rows), visits), (20000, (200, 20000)))
        self.assertIs(error_of(join, unary(a=201, b=100), pair, ("x", "y")), TooLarge)
        self.assertIs(error_of(join, unary(a=201, b=100), pair, ("y", "x")), TooLarge)

    def test_one_of_the_visits_above_the_limit(self):
        # There are 150 fitting assignments, but 22500 pairs for the two ends.
        path = read_pattern("<- e(x, y), e(y, z)")
        self.assertEqual(join(matching(150), path, ("x", "y", "z"))[1], (150, 150, 150))
        self.assertEqual(join(matching(141), path, ("x", "z", "y"))[1], (141, 19881, 141))
        self.assertIs(error_of(join, matching(150), path, ("x", "z", "y")), TooLarge)

    def test_the_largest_products_end(self):
        pattern = read_pattern("<- " + ", ".join(f"t({name})" for name in "abcdefgh"))
        self.assertIs(error_of(join, (table_with(300),), pattern, tuple("abcdefgh")), TooLarge)

    def test_which_error_comes_first(self):
        path = read_pattern("x <- edge(x, y)")
        for pattern in (path, BAD_PATTERN, LARGE_PATTERN):
            self.assertIs(error_of(join, BAD_CATALOGUE, pattern, ()), CatalogueError)
            self.assertIs(error_of(join, LARGE_CATALOGUE, pattern, ()), TooLarge)
        self.assertIs(error_of(join, HALL, BAD_PATTERN, ()), PatternError)
        self.assertIs(error_of(join, HALL, LARGE_PATTERN, ()), TooLarge)
        self.assertIs(error_of(join, (), path, ()), UnknownTable)
        self.assertIs(error_of(visit, "<- off(x)"), UnknownTable)
        self.assertIs(error_of(visit, "<- edge(x)"), PatternError)
        pair = read_pattern("<- a(x), b(y)")
        self.assertIs(error_of(join, unary(a=300, b=300), pair, ("x",)), OrderError)


class Answers(unittest.TestCase):
    """Point 502."""

    def test_same_as_plain_answers(self):
        dice = random.Random(502)
        for _ in range(300):
            catalogue, pattern = random_case(dice)
            found = answers(catalogue, pattern)
            self.assertEqual(found, plain_answers(catalogue, pattern), (catalogue, pattern))
            self.assertTrue(is_plain(found))

    def test_heads(self):
        self.assertEqual(answers(HALL, read_pattern("y " + TRIANGLE)), ((1,), (2,), (3,), (5,)))
        self.assertEqual(answers(HALL, read_pattern(TRIANGLE)), ((),))
        self.assertEqual(answers(HALL, read_pattern("<- up(x, y), up(y, z)")), ())
        self.assertEqual(answers(HALL, read_pattern("y, x <- up(x, y)")), ((2, 1), (4, 3)))

    def test_errors_are_those_of_the_join(self):
        pair = read_pattern("x <- a(x), b(y)")
        self.assertEqual(len(answers(unary(a=200, b=100), pair)), 200)
        self.assertIs(error_of(answers, unary(a=201, b=100), pair), TooLarge)
        path = "<- e(x, y), e(y, z)"
        self.assertEqual(answers(matching(150), read_pattern(path)), ((),))
        # The variables first occur in the order x, z, y here.
        self.assertIs(error_of(answers, matching(150), read_pattern("<- e(x, x), e(z, z), e(x, y), e(y, z)")), TooLarge)
        for catalogue, pattern, due in (
            (BAD_CATALOGUE, BAD_PATTERN, CatalogueError), (LARGE_CATALOGUE, BAD_PATTERN, TooLarge),
            (HALL, BAD_PATTERN, PatternError), (HALL, LARGE_PATTERN, TooLarge), ((), pair, UnknownTable),
            (HALL, read_pattern("<- edge(x)"), PatternError),
        ):
            self.assertIs(error_of(answers, catalogue, pattern), due)


class OrdersByVisits(unittest.TestCase):
    """Point 503."""

    def test_one_variable(self):
        self.assertEqual(orders_by_visits(HALL, read_pattern("<- on(x)")), (("x",), (3,)))
        self.assertEqual(orders_by_visits(HALL, read_pattern("x <- none(x, x)")), (("x",), (0,)))

    def test_the_least_sum(self):
        # To begin with y is best: 2 visits instead of 4.
        pattern = read_pattern("<- edge(x, y), on(y)")
        self.assertEqual(orders_by_visits(HALL, pattern), (("y", "x"), (2, 3)))

    def test_of_several_the_least_order(self):
        self.assertEqual(orders_by_visits(HALL, read_pattern("<- edge(z, y), edge(y, x)"))[0], ("x", "y", "z"))
        self.assertEqual(orders_by_visits(HALL, read_pattern("<- none(c, b), on(a)")), (("a", "b", "c"), (0, 0, 0)))
        self.assertEqual(orders_by_visits(unary(t=5), read_pattern("<- t(b), t(a)")), (("a", "b"), (5, 25)))

    def test_against_all_orders(self):
        dice = random.Random(503)
        for _ in range(100):
            catalogue, pattern = random_case(dice)
            ranks = []
            for order in itertools.permutations(variables_in(pattern)):
                visits = join(catalogue, pattern, order)[1]
                ranks.append((sum(visits), order, visits))
            found = orders_by_visits(catalogue, pattern)
            self.assertEqual(found, min(ranks)[1:], (catalogue, pattern))
            self.assertTrue(is_plain(found))

    def test_by_the_slow_way(self):
        dice = random.Random(504)
        for _ in range(10):
            catalogue, pattern = random_case(dice)
            order, visits = orders_by_visits(catalogue, pattern)
            self.assertEqual(visits, tuple(map(len, partials_by_trying(catalogue, pattern, order))))

    def test_five_and_six_variables(self):
        for size in (3, 4, 5):
            order, visits = orders_by_visits(matching(9), circle(size))
            self.assertEqual((order, visits), (tuple("abcde"[:size]), (9,) * size))
        self.assertIs(error_of(orders_by_visits, matching(9), circle(6)), TooLarge)
        self.assertIs(error_of(orders_by_visits, matching(0), star(5)), TooLarge)
        self.assertEqual(orders_by_visits(matching(9), star(4))[1], (9, 9, 9, 9, 9))
        order, visits = orders_by_visits(unary(t=7), read_pattern("<- " + ", ".join(f"t({name})" for name in "edcba")))
        self.assertEqual((order, visits), (tuple("abcde"), (7, 49, 343, 2401, 16807)))

    def test_some_visits_above_the_limit(self):
        # Only orders that begin with x and z have visits above 20000 here.
        path = read_pattern("<- e(x, y), e(y, z)")
        self.assertEqual(orders_by_visits(matching(141), path), (("x", "y", "z"), (141, 141, 141)))
        self.assertIs(error_of(orders_by_visits, matching(142), path), TooLarge)
        pair = read_pattern("<- a(x), b(y)")
        self.assertEqual(orders_by_visits(unary(a=200, b=100), pair), (("y", "x"), (100, 20000)))
        self.assertIs(error_of(orders_by_visits, unary(a=201, b=100), pair), TooLarge)

    def test_which_error_comes_first(self):
        six = circle(6)
        for pattern in (six, BAD_PATTERN, LARGE_PATTERN):
            self.assertIs(error_of(orders_by_visits, BAD_CATALOGUE, pattern), CatalogueError)
            self.assertIs(error_of(orders_by_visits, LARGE_CATALOGUE, pattern), TooLarge)
        self.assertIs(error_of(orders_by_visits, HALL, BAD_PATTERN), PatternError)
        self.assertIs(error_of(orders_by_visits, HALL, LARGE_PATTERN), TooLarge)
        self.assertIs(error_of(orders_by_visits, (), six), UnknownTable)
        self.assertIs(error_of(orders_by_visits, HALL, ((), circle(6, "edge")[1] + (("on", ("a", "b")),))), PatternError)


if __name__ == "__main__":
    unittest.main()
