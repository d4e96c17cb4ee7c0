import unittest

from helper import BAD_CATALOGUE, LARGE_CATALOGUE, error_of, is_plain, table_with, tables_with
from joinhall.errors import CatalogueError, TextError, TooLarge
from joinhall.notation import read_catalogue, write_catalogue

SHOP = (
    ("edge", 2, ((-7, 0), (1, 20), (2, -300))),
    ("none", 4, ()),
    ("on2", 1, ((-999999999,), (0,), (999999999,))),
)
TEXT = (
    "table edge 2\nrow -7 0\nrow 1 20\nrow 2 -300\n"
    "table none 4\n"
    "table on2 1\nrow -999999999\nrow 0\nrow 999999999\n"
)


class Texts(unittest.TestCase):
    """Point 203."""

    def check_error(self, text, due):
        self.assertIs(error_of(read_catalogue, text), due, repr(text))

    def test_writing(self):
        self.assertEqual(write_catalogue(SHOP), TEXT)
        self.assertEqual(write_catalogue((("a", 1, ()),)), "table a 1\n")

    def test_reading(self):
        found = read_catalogue(TEXT)
        self.assertEqual(found, SHOP)
        self.assertTrue(is_plain(found))

    def test_empty(self):
        self.assertEqual(write_catalogue(()), "")
        self.assertEqual(read_catalogue(""), ())

    def test_there_and_back(self):
        for catalogue in (SHOP, (), tables_with(8), (table_with(300),), SHOP[1:], SHOP[:2]):
            text = write_catalogue(catalogue)
            self.assertEqual(read_catalogue(text), catalogue)
            self.assertEqual(write_catalogue(read_catalogue(text)), text)

    def test_errors_of_writing(self):
        self.assertIs(error_of(write_catalogue, BAD_CATALOGUE), CatalogueError)
        self.assertIs(error_of(write_catalogue, LARGE_CATALOGUE), TooLarge)

    def test_last_line_feed(self):
        for text in (TEXT[:-1], "table a 1", "table a 1\nrow 1", "table a 1\nrow 1\n ", "x", " "):
            self.check_error(text, TextError)

    def test_empty_lines(self):
        for text in ("\n", "\ntable a 1\n", "table a 1\n\n", "table a 1\n\nrow 1\n", " \n"):
            self.check_error(text, TextError)

    def test_spaces(self):
        for line in ("row  1 2", "row 1  2", " row 1 2", "row 1 2 ", "row ", "row", "row 1\t2", "row\t1 2",
                     "row 1 2\r", "row 1,2", "row 1, 2"):
            self.check_error("table a 2\n" + line + "\n", TextError)
        for line in ("table  a 2", "table a  2", " table a 2", "table a 2 ", "table a", "table ", "table",
                     "table  2", "table a ", "table 2", "table a 2 3", "table a b 2", "table\ta 2", "table a 2\r"):
            self.check_error(line + "\n", TextError)

    def test_first_words(self):
        for line in ("tables a 1", "Table a 1", "TABLE a 1", "rows 1", "Row 1", "begin", "1", "column 1", "a 1"):
            self.check_error(line + "\n", TextError)
            self.check_error("table a 1\n" + line + "\n", TextError)

    def test_row_ahead_of_any_table(self):
        self.check_error("row 1\n", TextError)
        self.check_error("row 1\ntable a 1\n", TextError)

    def test_integers(self):
        wrong = ("01", "00", "-0", "-01", "-00", "+1", "+0", "-", "--1", "1-", "1000000000", "-1000000000",
                 "0000000001", "1.0", "1e3", "0x1", "1_0", "a", "\u0663", "\u00b2", "\uff11", "12a", "'1'")
        for word in wrong:
            self.check_error(f"table a 1\nrow {word}\n", TextError)
            self.check_error(f"table a 2\nrow 5 {word}\n", TextError)
            self.check_error(f"table a {word}\n", TextError)
        for word in ("0", "1", "-1", "10", "-10", "999999999", "-999999999", "100000000"):
            self.assertEqual(read_catalogue(f"table a 1\nrow {word}\n"), (("a", 1, ((int(word),),)),))

    def test_other_line_ends(self):
        for end in ("\r\n", "\r", "\x0b", "\x0c", "\x1c", "\x85", "\u2028"):
            self.check_error(TEXT.replace("\n", end), TextError)
            self.check_error("table a 1" + end + "row 1\n", TextError)

    def test_catalogue_errors(self):
        wrong = (
            "table b 1\ntable a 1\n", "table a 1\ntable a 1\n", "table a 0\n", "table a 5\n", "table a -1\n",
            "table a 999999999\n", "table a 2\nrow 1\n", "table a 2\nrow 1 2 3\n", "table a 1\nrow 2\nrow 1\n",
            "table a 1\nrow 1\nrow 1\n", "table A 1\n", "table 1a 1\n", "table a_b 1\n",
            "table abcdefghijklmnopqrstu 1\n", "table 1 1\n",
        )
        for text in wrong:
            self.check_error(text, CatalogueError)

    def test_too_large(self):
        tables = "".join(f"table t{n} 1\n" for n in range(9))
        rows = "table t 1\n" + "".join(f"row {n}\n" for n in range(301))
        self.check_error(tables, TooLarge)
        self.check_error(rows, TooLarge)
        self.check_error(rows + "table a 1\n", CatalogueError)

    def test_text_error_comes_first(self):
        self.check_error("table b 1\ntable a 1\nrow 01\n", TextError)
        self.check_error("table a 5\nx\n", TextError)
        self.check_error("".join(f"table t{n} 1\n" for n in range(9)) + "row\n", TextError)


if __name__ == "__main__":
    unittest.main()
