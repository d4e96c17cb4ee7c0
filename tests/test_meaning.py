import itertools
import random
import unittest

from helper import (
    BAD_CATALOGUE, BAD_PATTERN, LARGE_CATALOGUE, LARGE_PATTERN, error_of, is_plain, random_case, table_with,
)
from joinhall.errors import CatalogueError, PatternError, TooLarge, UnknownTable
from joinhall.meaning import plain_answers
from joinhall.patterns import variables_of
from joinhall.texts import read_pattern

HALL = (
    ("edge", 2, ((1, 2), (2, 2), (2, 3), (3, 1), (5, 5))),
    ("none", 2, ()),
    ("on", 1, ((-4,), (2,), (3,))),
    ("three", 3, ((1, 1, 2), (1, 2, 1), (2, 2, 2), (4, 3, 3))),
)


def ask(text, catalogue=HALL):
    return plain_answers(catalogue, read_pattern(text))


def answers_by_trying(catalogue, pattern):
    """Try all assignments of integers that stand anywhere in the catalogue."""
    head, atoms = pattern
    tables = {name: set(rows) for name, columns, rows in catalogue}
    numbers = sorted({n for rows in tables.values() for row in rows for n in row})
    variables = variables_of(pattern)
    found = set()
    for values in itertools.product(numbers, repeat=len(variables)):
        given = dict(zip(variables, values))
        if all(tuple(given[name] for name in names) in tables[table] for table, names in atoms):
            found.add(tuple(given[name] for name in head))
    return tuple(sorted(found))


class Answers(unittest.TestCase):
    """Point 303."""

    def test_example_of_the_interface(self):
        catalogue = (("edge", 2, ((1, 2), (2, 3))),)
        pattern = (("x", "y"), (("edge", ("x", "z")), ("edge", ("z", "y"))))
        self.assertEqual(plain_answers(catalogue, pattern), ((1, 3),))

    def test_one_atom(self):
        self.assertEqual(ask("x, y <- edge(x, y)"), HALL[0][2])
        self.assertEqual(ask("y, x <- edge(x, y)"), ((1, 3), (2, 1), (2, 2), (3, 2), (5, 5)))
        self.assertEqual(ask("x <- on(x)"), ((-4,), (2,), (3,)))

    def test_each_answer_once(self):
        self.assertEqual(ask("y <- edge(x, y)"), ((1,), (2,), (3,), (5,)))
        self.assertEqual(ask("x <- edge(x, y)"), ((1,), (2,), (3,), (5,)))
        self.assertEqual(ask("x <- edge(x, y), edge(x, z)"), ((1,), (2,), (3,), (5,)))

    def test_variable_several_times_in_an_atom(self):
        self.assertEqual(ask("x <- edge(x, x)"), ((2,), (5,)))
        self.assertEqual(ask("x, y <- three(x, x, y)"), ((1, 2), (2, 2)))
        self.assertEqual(ask("x, y <- three(x, y, x)"), ((1, 2), (2, 2)))
        self.assertEqual(ask("x, y <- three(y, x, x)"), ((2, 2), (3, 4)))
        self.assertEqual(ask("x <- three(x, x, x)"), ((2,),))
        self.assertEqual(ask("y <- on(x), edge(x, x), edge(x, y)"), ((2,), (3,)))
        self.assertEqual(ask("x <- edge(x, y), three(y, y, y)"), ((1,), (2,)))

    def test_same_atom_twice(self):
        self.assertEqual(ask("x, y <- edge(x, y), edge(x, y)"), HALL[0][2])

    def test_no_variable_in_common(self):
        self.assertEqual(ask("x, y <- on(y), on(x)"), tuple(itertools.product((-4, 2, 3), repeat=2)))

    def test_triangle(self):
        self.assertEqual(ask("x, y, z <- edge(x, y), edge(y, z), edge(z, x)"),
                         ((1, 2, 3), (2, 2, 2), (2, 3, 1), (3, 1, 2), (5, 5, 5)))

    def test_empty_head(self):
        self.assertEqual(ask("<- edge(x, y), on(x)"), ((),))
        self.assertEqual(ask("<- edge(x, y), edge(y, z), edge(z, x)"), ((),))
        self.assertEqual(ask("<- three(x, y, y), on(y)"), ((),))
        self.assertEqual(ask("<- three(x, x, x)"), ((),))

    def test_empty_head_without_a_fitting_assignment(self):
        hall = (("edge", 2, ((1, 2), (2, 3))),)
        self.assertEqual(ask("<- edge(x, x)", hall), ())
        self.assertEqual(ask("<- edge(x, y), edge(y, x)", hall), ())
        self.assertEqual(ask("<- edge(x, y), edge(y, z), edge(z, x)", hall), ())
        self.assertEqual(ask("<- edge(x, y), edge(y, z), edge(z, w)", hall), ())
        self.assertEqual(ask("<- edge(x, y), none(y, x)"), ())

    def test_empty_tables(self):
        self.assertEqual(ask("x, y <- none(x, y)"), ())
        self.assertEqual(ask("<- none(x, y)"), ())
        self.assertEqual(ask("x <- on(x), none(y, z)"), ())
        self.assertEqual(ask("x <- none(y, z), on(x)"), ())

    def test_results_are_plain(self):
        for text in ("x, y <- edge(x, y)", "<- on(x)", "<- none(x, y)"):
            self.assertTrue(is_plain(ask(text)))

    def test_against_trying_all(self):
        dice = random.Random(303)
        for _ in range(400):
            catalogue, pattern = random_case(dice)
            due = answers_by_trying(catalogue, pattern)
            self.assertEqual(plain_answers(catalogue, pattern), due, (catalogue, pattern))

    def test_full_size(self):
        # Eight atoms over eight variables that have nothing in common.
        catalogue = (table_with(300),)
        pattern = read_pattern("c <- " + ", ".join(f"t({name})" for name in "abcdefgh"))
        self.assertEqual(plain_answers(catalogue, pattern), catalogue[0][2])

    def test_errors(self):
        path = read_pattern("x <- edge(x, y)")
        for pattern in (path, BAD_PATTERN, LARGE_PATTERN):
            self.assertIs(error_of(plain_answers, BAD_CATALOGUE, pattern), CatalogueError)
            self.assertIs(error_of(plain_answers, LARGE_CATALOGUE, pattern), TooLarge)
        self.assertIs(error_of(plain_answers, HALL, BAD_PATTERN), PatternError)
        self.assertIs(error_of(plain_answers, HALL, LARGE_PATTERN), TooLarge)
        self.assertIs(error_of(plain_answers, (), path), UnknownTable)
        self.assertIs(error_of(ask, "<- off(x), edge(x)"), UnknownTable)
        self.assertIs(error_of(ask, "<- edge(x), off(x)"), PatternError)
        # An empty table does not hide the errors of the atoms behind it.
        self.assertIs(error_of(ask, "<- none(x, y), off(x)"), UnknownTable)


if __name__ == "__main__":
    unittest.main()
