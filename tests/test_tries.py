import itertools
import random
import unittest

from helper import error_of, is_plain
from joinhall.errors import RowError
from joinhall.tries import Trie, common

ROWS = ((1, 5, 2), (1, 5, 3), (1, 6, 2), (2, -5, 2), (4, 5, 2))


class Tries(unittest.TestCase):
    """Point 401."""

    def test_all_positions(self):
        trie = Trie(ROWS, (0, 1, 2))
        self.assertEqual(trie.count(), 5)
        self.assertEqual(trie.children(()), (1, 2, 4))
        self.assertEqual(trie.children((1,)), (5, 6))
        self.assertEqual(trie.children((1, 5)), (2, 3))
        self.assertEqual(trie.children((1, 6)), (2,))
        self.assertEqual(trie.children((2,)), (-5,))

    def test_one_position(self):
        trie = Trie(ROWS, (1,))
        self.assertEqual(trie.count(), 3)
        self.assertEqual(trie.children(()), (-5, 5, 6))
        self.assertEqual(trie.children((5,)), ())
        self.assertTrue(trie.has((5,)))

    def test_positions_in_another_order(self):
        trie = Trie(ROWS, (2, 0))
        self.assertEqual(trie.count(), 4)
        self.assertEqual(trie.children(()), (2, 3))
        self.assertEqual(trie.children((2,)), (1, 2, 4))
        self.assertEqual(trie.children((3,)), (1,))
        self.assertEqual(Trie(ROWS, (2, 1, 0)).children((2, 5)), (1, 4))

    def test_rows_that_agree_at_the_positions(self):
        self.assertEqual(Trie(ROWS, (0,)).count(), 3)
        self.assertEqual(Trie(((7, 1), (7, 2), (7, 3)), (0,)).count(), 1)
        self.assertEqual(Trie(((7, 1), (7, 2), (7, 3)), (0,)).children(()), (7,))

    def test_no_rows(self):
        for positions in ((0,), (3, 1)):
            trie = Trie((), positions)
            self.assertEqual(trie.count(), 0)
            self.assertEqual(trie.children(()), ())
            self.assertIs(trie.has(()), False)
            self.assertIs(trie.has((1,)), False)

    def test_whole_tuples_and_what_is_no_prefix(self):
        trie = Trie(ROWS, (0, 1))
        self.assertEqual(trie.children((1, 5)), ())
        self.assertIs(trie.has((1, 5)), True)
        for prefix in ((3,), (5,), (1, 7), (2, 5), (1, 5, 2), (1, 5, 2, 0), (-1,)):
            self.assertEqual(trie.children(prefix), (), prefix)
            self.assertIs(trie.has(prefix), False, prefix)
        self.assertIs(trie.has(()), True)
        self.assertIs(trie.has((4,)), True)

    def test_results_are_plain(self):
        trie = Trie(ROWS, (0, 1))
        for prefix in ((), (1,), (1, 5), (9,)):
            self.assertTrue(is_plain(trie.children(prefix)))

    def test_errors(self):
        for positions in ((), (0, 0), (1, 2, 1), (3,), (0, 3), (-1,), (0, -1), (-4,)):
            self.assertIs(error_of(Trie, ROWS, positions), RowError, positions)
        # A position must be an index of each row.
        self.assertIs(error_of(Trie, ((1, 2), (3,)), (1,)), RowError)
        self.assertIs(error_of(Trie, ((3,), (1, 2)), (1,)), RowError)
        self.assertIsNone(error_of(Trie, ((1, 2), (3,)), (0,)))
        self.assertIs(error_of(Trie, (), ()), RowError)
        self.assertIs(error_of(Trie, (), (1, 1)), RowError)

    def test_against_looking_at_all_tuples(self):
        dice = random.Random(401)
        for _ in range(200):
            columns = dice.randint(1, 4)
            rows = tuple(sorted({tuple(dice.randint(-1, 2) for _ in range(columns))
                                 for _ in range(dice.randint(0, 12))}))
            positions = tuple(dice.sample(range(columns), dice.randint(1, columns)))
            tuples = {tuple(row[position] for position in positions) for row in rows}
            trie = Trie(rows, positions)
            self.assertEqual(trie.count(), len(tuples))
            for size in range(len(positions) + 2):
                for prefix in itertools.product((-1, 0, 1, 2), repeat=size):
                    due = {one[size] for one in tuples if one[:size] == prefix and len(one) > size}
                    self.assertEqual(trie.children(prefix), tuple(sorted(due)))
                    self.assertIs(trie.has(prefix), any(one[:size] == prefix for one in tuples))


class Common(unittest.TestCase):
    """Point 403."""

    def test_few_tuples(self):
        self.assertEqual(common(()), ())
        self.assertEqual(common(((),)), ())
        self.assertEqual(common(((-3, 0, 8),)), (-3, 0, 8))

    def test_several_tuples(self):
        self.assertEqual(common(((1, 2, 3), (2, 3, 4))), (2, 3))
        self.assertEqual(common(((-5, -2, 0, 7), (-5, 0, 1, 7), (-9, -5, 7))), (-5, 7))
        self.assertEqual(common(((1, 9), (1, 9), (1, 9))), (1, 9))
        self.assertEqual(common(((1, 3, 5), (2, 4, 6))), ())
        self.assertEqual(common(((1, 2), (2, 3), (3, 4))), ())
        self.assertEqual(common(((1, 2), (), (1, 2))), ())
        self.assertEqual(common(((), (1, 2))), ())
        self.assertEqual(common(((1, 2, 3, 4, 5, 6), (6,), (0, 6))), (6,))

    def test_against_sets(self):
        dice = random.Random(403)
        for _ in range(300):
            rows = tuple(tuple(sorted(dice.sample(range(-6, 7), dice.randint(4, 13))))
                         for _ in range(dice.randint(1, 5)))
            found = common(rows)
            self.assertEqual(found, tuple(sorted(set.intersection(*map(set, rows)))))
            self.assertTrue(is_plain(found))


if __name__ == "__main__":
    unittest.main()
