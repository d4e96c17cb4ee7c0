import itertools
import random
import unittest

from helper import (
    BAD_CATALOGUE, BAD_PATTERN, LARGE_CATALOGUE, LARGE_PATTERN, circle, drawn_parts, error_of, is_plain,
    one_part, random_case, star, table_with, variables_in,
)
from joinhall.errors import CatalogueError, NoAnswer, PartsError, PatternError, TooLarge, UnknownTable
from joinhall.factors import Factors
from joinhall.joins import join
from joinhall.parts import order_of
from joinhall.texts import read_pattern
from joinhall.widths import atom_tree, least_parts

HALL = (("e", 2, ((1, 2), (1, 3), (2, 3), (3, 1), (4, 4))), ("none", 1, ()), ("on", 1, ((1,), (3,))))
PATH = read_pattern("<- e(x, y), e(y, z)")
ALONG = ((("x", "y"), -1), (("y", "z"), 0))
EIGHT = read_pattern("<- " + ", ".join(f"t({name})" for name in "abcdefgh"))
APART = (((("a",), -1),) + tuple(((name,), 0) for name in "bcdefgh"))


def matching(size):
    """Return a catalogue whose table e has a row (n, n) for so many n."""
    return (("e", 2, tuple((n, n) for n in range(size))),)


class Small(unittest.TestCase):
    """Points 801 to 803, told by hand."""

    def setUp(self):
        self.path = Factors(HALL, PATH, ALONG)

    def test_order(self):
        self.assertEqual(self.path.order, ("x", "y", "z"))
        other = Factors(HALL, PATH, ((("y", "z"), -1), (("x", "y"), 0)))
        self.assertEqual(other.order, ("y", "z", "x"))
        self.assertEqual(other.rows(), ((1, 2, 3), (1, 3, 3), (2, 3, 1), (3, 1, 1), (3, 1, 2), (4, 4, 4)))

    def test_rows(self):
        self.assertEqual(self.path.rows(), ((1, 2, 3), (1, 3, 1), (2, 3, 1), (3, 1, 2), (3, 1, 3), (4, 4, 4)))

    def test_count_answer_number(self):
        self.assertEqual(self.path.count(), 6)
        for k, row in enumerate(self.path.rows()):
            self.assertEqual(self.path.answer(k), row)
            self.assertEqual(self.path.number(row), k)

    def test_no_answer(self):
        for k in (-1, -6, -7, 6, 7, 10 ** 30):
            self.assertIs(error_of(self.path.answer, k), NoAnswer, k)

    def test_what_is_no_assignment(self):
        for row in ((), (1,), (1, 2), (1, 2, 4), (2, 2, 3), (1, 2, 3, 1), (1, 2, 3, 3), (9, 9, 9), (1, 1, 2), (3, 2, 1)):
            self.assertIsNone(self.path.number(row), row)

    def test_begins(self):
        for prefix, due in (((), 6), ((1,), 2), ((3,), 2), ((3, 1), 2), ((3, 1, 2), 1), ((3, 1, 4), 0), ((1, 4), 0),
                            ((5,), 0), ((0,), 0), ((1, 2, 3, 3), 0), ((3, 1, 2, 1), 0), ((2, 3), 1)):
            self.assertEqual(self.path.begins(prefix), due, prefix)

    def test_next_ones(self):
        for prefix, due in (((), (1, 2, 3, 4)), ((1,), (2, 3)), ((3, 1), (2, 3)), ((3, 1, 2), ()), ((5,), ()),
                            ((1, 4), ()), ((3, 1, 2, 1), ()), ((3, 1, 4), ())):
            self.assertEqual(self.path.next_ones(prefix), due, prefix)

    def test_levels(self):
        self.assertEqual(self.path.levels(), (4, 5, 6))
        # Nothing that leads nowhere counts: x may begin with 1, 2 or 3 only.
        ends = Factors(HALL, read_pattern("<- e(x, y), e(y, z), on(z)"), ALONG)
        self.assertEqual(ends.rows(), ((1, 2, 3), (1, 3, 1), (2, 3, 1), (3, 1, 3)))
        self.assertEqual(ends.levels(), (3, 4, 4))

    def test_no_answers(self):
        for text in ("<- e(x, y), none(y)", "<- e(x, y), none(z)", "<- e(x, y), e(y, z), e(x, z), none(z)",
                     "<- e(y, x), e(x, y)"):
            pattern = read_pattern(text)
            # Only the last one has an answer, (4, 4).
            parts = one_part(pattern)
            factors = Factors(HALL, pattern, parts)
            due = join(HALL, pattern, order_of(parts))[0]
            self.assertEqual((factors.rows(), factors.count()), (due, len(due)))
        empty = Factors(HALL, read_pattern("<- on(x), none(y)"), ((("x",), -1), (("y",), 0)))
        self.assertEqual((empty.count(), empty.rows(), empty.levels()), (0, (), (0, 0)))
        self.assertEqual((empty.begins(()), empty.next_ones(()), empty.number((1, 1))), (0, (), None))
        self.assertIs(error_of(empty.answer, 0), NoAnswer)

    def test_results_are_plain(self):
        for told in (self.path.order, self.path.rows(), self.path.levels(), self.path.answer(0),
                     self.path.next_ones(()), self.path.begins(()), self.path.number((1, 2, 3)), self.path.count()):
            self.assertTrue(is_plain(told))

    def test_the_head_does_not_matter(self):
        self.assertEqual(Factors(HALL, (("z",), PATH[1]), ALONG).rows(), self.path.rows())


class AgainstJoins(unittest.TestCase):
    """Points 801 to 803, for drawn patterns and trees."""

    def check(self, catalogue, pattern, parts, dice):
        factors = Factors(catalogue, pattern, parts)
        rows = join(catalogue, pattern, order_of(parts))[0]
        size = len(variables_in(pattern))
        self.assertEqual(factors.order, order_of(parts))
        self.assertEqual((factors.rows(), factors.count()), (rows, len(rows)), (catalogue, pattern, parts))
        self.assertEqual([factors.answer(k) for k in range(len(rows))], list(rows))
        self.assertEqual([factors.number(row) for row in rows], list(range(len(rows))))
        self.assertEqual(factors.levels(), tuple(len({row[:k] for row in rows}) for k in range(1, size + 1)))
        self.assertIs(error_of(factors.answer, -1), NoAnswer)
        self.assertIs(error_of(factors.answer, len(rows)), NoAnswer)
        prefixes = {row[:k] for row in rows for k in range(size + 1)}
        for _ in range(20):
            prefixes.add(tuple(dice.randint(-2, 3) for _ in range(dice.randint(0, size + 1))))
        for prefix in prefixes:
            at = len(prefix)
            fitting = [row for row in rows if row[:at] == prefix]
            self.assertEqual(factors.begins(prefix), len(fitting), (catalogue, pattern, parts, prefix))
            self.assertEqual(factors.next_ones(prefix), tuple(sorted({row[at] for row in fitting if at < size})))
            self.assertEqual(factors.number(prefix), rows.index(prefix) if prefix in rows else None)

    def test_drawn_ones(self):
        dice = random.Random(801)
        for _ in range(120):
            catalogue, pattern = random_case(dice)
            trees = [one_part(pattern), least_parts(pattern), atom_tree(pattern)]
            trees.extend(drawn_parts(dice, pattern) for _ in range(3))
            for parts in trees:
                if parts is not None:
                    self.check(catalogue, pattern, parts, dice)

    def test_full_size(self):
        dice = random.Random(802)
        rows = tuple(sorted({(dice.randrange(25), dice.randrange(25)) for _ in range(45)}))
        for pattern in (circle(8), circle(7), star(3), ((), circle(8)[1][:7])):
            for parts in (least_parts(pattern), drawn_parts(dice, pattern)):
                self.check((("e", 2, rows),), pattern, parts, dice)

    def test_walking_level_by_level_visits_just_what_levels_says(self):
        dice = random.Random(803)
        for _ in range(60):
            catalogue, pattern = random_case(dice)
            factors = Factors(catalogue, pattern, drawn_parts(dice, pattern))
            reached = [()]
            for many in factors.levels():
                reached = [prefix + (n,) for prefix in reached for n in factors.next_ones(prefix)]
                self.assertEqual(len(reached), many)
            self.assertEqual(tuple(reached), factors.rows())

    def test_atom_whose_variables_are_in_several_bags(self):
        pattern = read_pattern("<- e(x, y), e(y, z), on(x), on(y)")
        parts = ((("x", "y"), -1), (("x", "y"), 0), (("y",), 1), (("y", "z"), 2), (("x",), 0), (("z",), 3))
        self.check(HALL, pattern, parts, random.Random(0))

    def test_branches_that_the_order_mixes(self):
        pattern = read_pattern("<- e(m, a), e(m, b), e(a, c), e(b, d), e(c, f)")
        parts = ((("m",), -1), (("a", "m"), 0), (("b", "m"), 0), (("a", "c"), 1), (("b", "d"), 2), (("c", "f"), 3))
        self.assertEqual(order_of(parts), ("m", "a", "b", "c", "d", "f"))
        self.check(HALL, pattern, parts, random.Random(0))

    def test_bags_with_nothing_in_common(self):
        pattern = read_pattern("<- on(b), e(a, c), on(d)")
        for parts in (((("b",), -1), (("a", "c"), 0), (("d",), 1)), ((("d",), -1), (("b",), 0), (("a", "c"), 0)),
                      ((("b", "d"), -1), (("a", "c", "d"), 0)), ((("a",), -1), (("b",), 0), (("a", "c", "d"), 0))):
            self.check(HALL, pattern, parts, random.Random(0))


class Large(unittest.TestCase):
    """Points 801 to 803, where a list is out of the question."""

    def test_products(self):
        factors = Factors((table_with(300),), EIGHT, APART)
        self.assertEqual(factors.count(), 300 ** 8)
        self.assertEqual(factors.levels(), tuple(300 ** k for k in range(1, 9)))
        self.assertEqual(factors.begins((7, 8, 9)), 300 ** 5)
        self.assertEqual(factors.next_ones((5,) * 7), tuple(range(300)))
        for k in (0, 1, 299, 300, 300 ** 7, 123456789123456789, 300 ** 8 - 1):
            row = factors.answer(k)
            self.assertEqual(sum(n * 300 ** (7 - at) for at, n in enumerate(row)), k)
            self.assertEqual(factors.number(row), k)
        self.assertIs(error_of(factors.answer, 300 ** 8), NoAnswer)
        self.assertIsNone(factors.number((300,) * 8))

    def test_path_with_many_answers(self):
        rows = tuple(itertools.product(range(17), repeat=2))
        pattern = ((), circle(8)[1][:7])
        factors = Factors((("e", 2, rows),), pattern, atom_tree(pattern))
        self.assertEqual(factors.count(), 17 ** 8)
        self.assertEqual(factors.levels(), tuple(17 ** k for k in range(1, 9)))
        for k in (0, 12345678, 17 ** 8 - 1):
            self.assertEqual(factors.number(factors.answer(k)), k)

    def test_circle_with_many_answers(self):
        dice = random.Random(808)
        rows = {(dice.randrange(20), dice.randrange(20)) for _ in range(250)}
        factors = Factors((("e", 2, tuple(sorted(rows))),), circle(8), least_parts(circle(8)))
        # The number of closed walks of eight steps.
        walks = {(a, a): 1 for a in range(20)}
        for _ in range(8):
            longer = {}
            for (a, b), many in walks.items():
                for low, high in rows:
                    if low == b:
                        longer[a, high] = longer.get((a, high), 0) + many
            walks = longer
        self.assertEqual(factors.count(), sum(many for (a, b), many in walks.items() if a == b))
        middle = factors.count() // 2
        self.assertEqual(factors.number(factors.answer(middle)), middle)


class Errors(unittest.TestCase):
    """Point 801."""

    def test_wrong_parts(self):
        for parts in ((), ALONG[:1], ((("x", "y"), -1), (("y", "z"), -1)), ((("x", "y"), -1), (("x", "z"), 0)),
                      ((("x", "y", "z", "w"), -1),), ((("y", "x"), -1), (("y", "z"), 0)), (((), -1),)):
            self.assertIs(error_of(Factors, HALL, PATH, parts), PartsError, parts)

    def test_too_large(self):
        pair = read_pattern("<- a(x), b(y)")
        both = ((("x", "y"), -1),)
        hall = (table_with(200, "a"), table_with(100, "b"))
        larger = (table_with(201, "a"), table_with(100, "b"))
        self.assertEqual(Factors(hall, pair, both).count(), 20000)
        self.assertIs(error_of(Factors, larger, pair, both), TooLarge)
        self.assertEqual(Factors(larger, pair, ((("x",), -1), (("y",), 0))).count(), 20100)
        # A bag within another one may have more partial answers than that one.
        path = read_pattern("<- e(x, y), e(y, z)")
        whole = ((("x", "y", "z"), -1),)
        self.assertEqual(Factors(matching(300), path, whole).count(), 300)
        self.assertEqual(Factors(matching(141), path, whole + ((("x", "z"), 0),)).count(), 141)
        self.assertIs(error_of(Factors, matching(142), path, whole + ((("x", "z"), 0),)), TooLarge)

    def test_partial_answers_of_a_bag_look_at_all_atoms(self):
        # Without a row for z there are no partial answers for x and y at all.
        pattern = read_pattern("<- a(x), b(y), c(z)")
        parts = ((("x", "y"), -1), (("z",), 0))
        hall = (table_with(300, "a"), table_with(300, "b"))
        self.assertEqual(Factors(hall + (table_with(0, "c"),), pattern, parts).count(), 0)
        self.assertIs(error_of(Factors, hall + (table_with(1, "c"),), pattern, parts), TooLarge)

    def test_large_bags_end(self):
        self.assertIs(error_of(Factors, (table_with(300),), EIGHT, one_part(EIGHT)), TooLarge)
        for pattern in (circle(8), star(7), circle(3), ((), circle(8)[1][:7])):
            self.assertEqual(Factors(matching(300), pattern, one_part(pattern)).count(), 300)
        # Many ways begin to go around, but none closes: seven steps keep what is even, one does not.
        pairs = tuple(itertools.product(range(24), repeat=2))
        hall = (("e", 2, tuple(pair for pair in pairs if sum(pair) % 2 == 0)),
                ("f", 2, tuple(pair for pair in pairs if sum(pair) % 2 == 1)))
        pattern = ((), circle(8)[1][:7] + (("f", ("h", "a")),))
        self.assertEqual(Factors(hall, pattern, one_part(pattern)).count(), 0)

    def test_which_error_comes_first(self):
        for pattern in (PATH, BAD_PATTERN, LARGE_PATTERN):
            self.assertIs(error_of(Factors, BAD_CATALOGUE, pattern, ()), CatalogueError)
            self.assertIs(error_of(Factors, LARGE_CATALOGUE, pattern, ()), TooLarge)
        self.assertIs(error_of(Factors, HALL, BAD_PATTERN, ()), PatternError)
        self.assertIs(error_of(Factors, HALL, LARGE_PATTERN, ()), TooLarge)
        self.assertIs(error_of(Factors, (), PATH, ()), UnknownTable)
        self.assertIs(error_of(Factors, HALL, read_pattern("<- e(x)"), ()), PatternError)
        self.assertIs(error_of(Factors, HALL, read_pattern("<- off(x), e(x)"), ()), UnknownTable)
        parts = one_part(EIGHT)
        self.assertIs(error_of(Factors, (table_with(300),), EIGHT, parts + ((("z",), 0),)), PartsError)
        self.assertIs(error_of(Factors, (table_with(300),), EIGHT, parts), TooLarge)


if __name__ == "__main__":
    unittest.main()
