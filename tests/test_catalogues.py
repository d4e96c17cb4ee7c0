import unittest

from helper import BAD_CATALOGUE, LARGE_CATALOGUE, error_of, is_plain, table_with, tables_with
from joinhall import catalogues
from joinhall.catalogues import check_catalogue, columns_of, rows_of, with_row, without_row
from joinhall.errors import CatalogueError, RowError, TooLarge, UnknownTable

TOP = 999999999
SHOP = (
    ("edge", 2, ((1, 2), (2, 3), (2, 10))),
    ("none", 3, ()),
    ("on", 1, ((-5,), (0,), (7,))),
)


def outcome(*tables):
    return error_of(check_catalogue, tables)


class Checks(unittest.TestCase):
    """Point 201."""

    def test_constants(self):
        found = (catalogues.TABLE_LIMIT, catalogues.ROW_LIMIT, catalogues.COLUMN_LIMIT)
        self.assertEqual(found, (8, 300, 4))

    def test_right_ones(self):
        self.assertIsNone(check_catalogue(()))
        self.assertIsNone(check_catalogue(SHOP))

    def test_names(self):
        for name in ("a", "z", "a1", "z9", "a0z", "abcdefghijklmnopqrst"):
            self.assertIsNone(outcome((name, 1, ())), name)
        wrong = ("", "abcdefghijklmnopqrstu", "1a", "9", "A", "aB", "a_b", "a-b", "a b", " a", "a ",
                 "a\n", "\u00e9", "a\u00e9", "a\u0663", "a\u00b2", "a{", "a`", "a/", "a:", "{", "`")
        for name in wrong:
            self.assertIs(outcome((name, 1, ())), CatalogueError, name)

    def test_order_of_names(self):
        self.assertIsNone(outcome(("a", 1, ()), ("a0", 1, ()), ("aa", 1, ()), ("b", 1, ())))
        self.assertIs(outcome(("b", 1, ()), ("a", 1, ())), CatalogueError)
        self.assertIs(outcome(("a", 1, ()), ("a", 1, ())), CatalogueError)
        self.assertIs(outcome(("a", 1, ()), ("c", 1, ()), ("b", 1, ())), CatalogueError)
        self.assertIs(outcome(("t10", 1, ()), ("t9", 1, ()), ("t100", 1, ())), CatalogueError)

    def test_columns(self):
        for columns in (1, 2, 3, 4):
            self.assertIsNone(outcome(("a", columns, ())))
            self.assertIsNone(outcome(("a", columns, ((5,) * columns,))))
        for columns in (-1, 0, 5, 100):
            self.assertIs(outcome(("a", columns, ())), CatalogueError)
        self.assertIs(outcome(("a", 0, ((),))), CatalogueError)
        self.assertIs(outcome(("a", 5, ((1, 2, 3, 4, 5),))), CatalogueError)

    def test_lengths_of_rows(self):
        for row in ((), (1,), (1, 2, 3)):
            self.assertIs(outcome(("a", 2, (row,))), CatalogueError)
            self.assertIs(outcome(("a", 2, tuple(sorted([(0, 0), row, (9, 9)])))), CatalogueError)

    def test_order_of_rows(self):
        self.assertIsNone(outcome(("a", 2, ((1, 2), (1, 3), (2, 0)))))
        self.assertIsNone(outcome(("a", 1, ((-2,), (-1,), (0,), (9,), (10,)))))
        self.assertIs(outcome(("a", 2, ((1, 2), (1, 2)))), CatalogueError)
        self.assertIs(outcome(("a", 2, ((1, 3), (1, 2)))), CatalogueError)
        self.assertIs(outcome(("a", 2, ((2, 0), (1, 9)))), CatalogueError)
        self.assertIs(outcome(("a", 1, ((1,), (3,), (2,)))), CatalogueError)

    def test_range(self):
        self.assertIsNone(outcome(("a", 2, ((-TOP, TOP), (TOP, -TOP)))))
        for row in ((TOP + 1, 0), (0, TOP + 1), (-TOP - 1, 0), (0, -TOP - 1)):
            self.assertIs(outcome(("a", 2, (row,))), CatalogueError)

    def test_other_shapes(self):
        for table in ((), ("a",), ("a", 1), ("a", 1, (), ()), ("a", 1, (1,)), ("a", 1, (("1",),)),
                      ("a", 1, "b"), ("a", "1", ()), (1, 1, ()), "abc"):
            self.assertIs(outcome(table), CatalogueError, table)

    def test_every_table_counts(self):
        self.assertIs(outcome(("a", 1, ()), ("b", 2, ((1,),)), ("c", 1, ())), CatalogueError)
        self.assertIs(outcome(("a", 1, ()), ("b", 1, ()), ("c", 5, ())), CatalogueError)

    def test_sizes(self):
        self.assertIsNone(check_catalogue(tables_with(8)))
        self.assertIs(error_of(check_catalogue, tables_with(9)), TooLarge)
        self.assertIsNone(outcome(table_with(300)))
        self.assertIs(outcome(table_with(301)), TooLarge)
        self.assertIs(outcome(("a", 1, ()), table_with(301), ("z", 1, ())), TooLarge)

    def test_catalogue_error_comes_first(self):
        self.assertIs(error_of(check_catalogue, tables_with(9) + (("z", 5, ()),)), CatalogueError)
        self.assertIs(error_of(check_catalogue, tables_with(9) + (("a", 1, ()),)), CatalogueError)
        self.assertIs(outcome(table_with(301), ("z", 0, ())), CatalogueError)
        self.assertIs(outcome(table_with(301), ("a", 1, ())), CatalogueError)
        rows = table_with(301)[2]
        self.assertIs(outcome(("a", 1, rows + ((0,),))), CatalogueError)


class Rows(unittest.TestCase):
    """Point 202."""

    def test_looking_up(self):
        self.assertEqual(rows_of(SHOP, "edge"), ((1, 2), (2, 3), (2, 10)))
        self.assertEqual(rows_of(SHOP, "none"), ())
        self.assertEqual(rows_of(SHOP, "on"), ((-5,), (0,), (7,)))
        self.assertEqual([columns_of(SHOP, name) for name in ("edge", "none", "on")], [2, 3, 1])

    def test_unknown_table(self):
        for name in ("o", "onn", "", "Edge", "zzz"):
            self.assertIs(error_of(rows_of, SHOP, name), UnknownTable)
            self.assertIs(error_of(columns_of, SHOP, name), UnknownTable)
            self.assertIs(error_of(with_row, SHOP, name, (1, 2)), UnknownTable)
            self.assertIs(error_of(without_row, SHOP, name, (1, 2)), UnknownTable)
        self.assertIs(error_of(rows_of, (), "edge"), UnknownTable)

    def test_with_row(self):
        for row, at in (((0, 0), 0), ((1, 3), 1), ((2, 9), 2), ((2, 11), 3), ((TOP, -TOP), 3)):
            found = with_row(SHOP, "edge", row)
            rows = list(SHOP[0][2])
            rows.insert(at, row)
            self.assertEqual(found, (("edge", 2, tuple(rows)),) + SHOP[1:])
            self.assertTrue(is_plain(found))
            self.assertIsNone(check_catalogue(found))
        self.assertEqual(with_row(SHOP, "none", (1, 1, 1))[1], ("none", 3, ((1, 1, 1),)))
        self.assertEqual(with_row(SHOP, "on", (3,))[:2], SHOP[:2])

    def test_without_row(self):
        for row in SHOP[0][2]:
            found = without_row(SHOP, "edge", row)
            rows = tuple(other for other in SHOP[0][2] if other != row)
            self.assertEqual(found, (("edge", 2, rows),) + SHOP[1:])
            self.assertTrue(is_plain(found))
            self.assertIsNone(check_catalogue(found))
        self.assertEqual(without_row((("a", 1, ((4,),)),), "a", (4,)), (("a", 1, ()),))

    def test_there_and_back(self):
        self.assertEqual(without_row(with_row(SHOP, "edge", (2, 5)), "edge", (2, 5)), SHOP)
        self.assertEqual(with_row(without_row(SHOP, "edge", (2, 3)), "edge", (2, 3)), SHOP)

    def test_row_error(self):
        wrong = ((), (1,), (1, 2, 3), (TOP + 1, 0), (0, TOP + 1), (-TOP - 1, 0), (0, -TOP - 1))
        for row in wrong:
            self.assertIs(error_of(with_row, SHOP, "edge", row), RowError)
            self.assertIs(error_of(without_row, SHOP, "edge", row), RowError)
        for row in SHOP[0][2]:
            self.assertIs(error_of(with_row, SHOP, "edge", row), RowError)
        for row in ((1, 3), (2, 2), (3, 2)):
            self.assertIs(error_of(without_row, SHOP, "edge", row), RowError)
        self.assertIs(error_of(without_row, SHOP, "none", (1, 1, 1)), RowError)
        self.assertIs(error_of(without_row, SHOP, "none", (7,)), RowError)

    def test_too_large(self):
        found = with_row((table_with(299),), "t", (299,))
        self.assertEqual(found, (table_with(300),))
        self.assertIs(error_of(with_row, found, "t", (300,)), TooLarge)
        self.assertEqual(without_row(found, "t", (299,)), (table_with(299),))

    def test_order_of_errors(self):
        full = (table_with(300),)
        self.assertIs(error_of(with_row, full, "u", (1, 2)), UnknownTable)
        for row in ((5,), (1, 2), (TOP + 1,)):
            self.assertIs(error_of(with_row, full, "t", row), RowError)
        self.assertIs(error_of(without_row, full, "u", (-1,)), UnknownTable)

    def test_errors_of_the_catalogue_come_first(self):
        for catalogue, due in ((BAD_CATALOGUE, CatalogueError), (LARGE_CATALOGUE, TooLarge)):
            for name in ("t", "u", "Bad"):
                self.assertIs(error_of(rows_of, catalogue, name), due)
                self.assertIs(error_of(columns_of, catalogue, name), due)
                self.assertIs(error_of(with_row, catalogue, name, (1, 2)), due)
                self.assertIs(error_of(without_row, catalogue, name, (1, 2)), due)


if __name__ == "__main__":
    unittest.main()
