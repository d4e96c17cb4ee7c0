import unittest

from helper import BAD_CATALOGUE, BAD_PATTERN, LARGE_CATALOGUE, LARGE_PATTERN, error_of, is_plain
from joinhall import patterns
from joinhall.errors import CatalogueError, PatternError, TooLarge, UnknownTable
from joinhall.patterns import check_fit, check_pattern, is_full, variables_of

PATH = (("x", "y"), (("edge", ("x", "z")), ("edge", ("z", "y"))))
HALL = (("edge", 2, ((1, 2),)), ("on", 1, ()), ("wide", 4, ()))
BAD_NAMES = ("", "abcdefghijklmnopqrstu", "1x", "7", "X", "xY", "x_y", "x y", "x\n", "\u00e9", "x\u0663", "x{")


def outcome(head, *atoms):
    return error_of(check_pattern, (head, atoms))


def singles(count):
    """Return so many atoms with one variable each, all different."""
    return tuple(("t", (f"v{n}",)) for n in range(count))


class Checks(unittest.TestCase):
    """Point 301."""

    def test_constants(self):
        self.assertEqual((patterns.ATOM_LIMIT, patterns.VARIABLE_LIMIT), (8, 8))

    def test_right_ones(self):
        self.assertIsNone(check_pattern(PATH))
        self.assertIsNone(outcome((), ("t", ("x",))))
        self.assertIsNone(outcome(("x",), ("t", ("x", "x", "x", "x"))))
        self.assertIsNone(outcome(("y", "x"), ("t", ("x",)), ("u", ("y", "x")), ("t", ("x",))))
        self.assertIsNone(outcome(("t",), ("t", ("t", "abcdefghijklmnopqrst"))))

    def test_names(self):
        for name in BAD_NAMES:
            self.assertIs(outcome((), (name, ("x",))), PatternError, name)
            self.assertIs(outcome((), ("t", ("x", name))), PatternError, name)
            self.assertIs(outcome((name,), ("t", ("x", name))), PatternError, name)
            self.assertIs(outcome((name,), ("t", ("x",))), PatternError, name)
            self.assertIs(outcome((), ("t", ("x",)), (name, ("x",))), PatternError, name)

    def test_atoms(self):
        self.assertIs(outcome(()), PatternError)
        self.assertIs(outcome((), ("t", ())), PatternError)
        self.assertIs(outcome((), ("t", ("a", "b", "c", "d", "e"))), PatternError)
        self.assertIs(outcome((), ("t", ("a", "a", "a", "a", "a"))), PatternError)
        self.assertIs(outcome((), ("t", ("x",)), ("u", ())), PatternError)
        for many in (1, 2, 3, 4):
            self.assertIsNone(outcome((), ("t", ("a", "b", "c", "d")[:many])))

    def test_head(self):
        atom = ("t", ("x", "y"))
        for head in (("x", "x"), ("x", "y", "x"), ("z",), ("x", "z"), ("z", "x"), ("t",)):
            self.assertIs(outcome(head, atom), PatternError, head)
        for head in ((), ("x",), ("y",), ("x", "y"), ("y", "x")):
            self.assertIsNone(outcome(head, atom))

    def test_other_shapes(self):
        for atom in ((), ("t",), ("t", ("x",), ()), ("t", "x"), (("x",), "t"), "tx", ("t", (1,)), (1, ("x",))):
            self.assertIs(outcome((), atom), PatternError, atom)
        self.assertIs(outcome("x", ("t", ("x",))), PatternError)
        for pattern in ((), ((),), ((), (("t", ("x",)),), ())):
            self.assertIs(error_of(check_pattern, pattern), PatternError, pattern)

    def test_numbers_of_variables(self):
        self.assertIs(outcome((), ("t", ("x",)), ("t", ("x", "x"))), PatternError)
        self.assertIs(outcome((), ("t", ("x", "y")), ("u", ("x",)), ("t", ("x",))), PatternError)
        self.assertIs(outcome((), ("t", ("x",)), ("u", ("x",)), ("u", ("x", "y"))), PatternError)
        self.assertIsNone(outcome((), ("t", ("x", "y")), ("u", ("x",)), ("t", ("x", "x"))))

    def test_sizes(self):
        self.assertIsNone(outcome((), *[("t", ("x",))] * 8))
        self.assertIs(outcome((), *[("t", ("x",))] * 9), TooLarge)
        self.assertIsNone(outcome((), *singles(8)))
        eight = ("a", "b", "c", "d", "e", "f", "g", "h")
        self.assertIsNone(outcome(eight, ("t", eight[:4]), ("t", eight[4:]), ("t", eight[2:6])))
        self.assertIs(outcome((), ("t", eight[:4]), ("t", eight[4:]), ("u", ("i",))), TooLarge)
        self.assertIs(outcome(eight + ("i",), ("t", eight[:4]), ("t", eight[4:]), ("u", ("i",))), TooLarge)

    def test_pattern_error_comes_first(self):
        nine = singles(9)
        self.assertIs(outcome(("none",), *nine), PatternError)
        self.assertIs(outcome(("v0", "v0"), *nine), PatternError)
        self.assertIs(outcome((), *nine, ("t", ("v0", "v1"))), PatternError)
        self.assertIs(outcome((), *nine, ("u", ())), PatternError)
        self.assertIs(outcome((), *nine, ("u", ("X",))), PatternError)


class Fits(unittest.TestCase):
    """Point 301, a catalogue and a pattern."""

    def fit(self, *atoms):
        return error_of(check_fit, HALL, ((), atoms))

    def test_right_ones(self):
        self.assertIsNone(check_fit(HALL, PATH))
        self.assertIsNone(self.fit(("on", ("x",)), ("wide", ("x", "x", "y", "z")), ("edge", ("y", "y"))))

    def test_unknown_table(self):
        self.assertIs(self.fit(("off", ("x",))), UnknownTable)
        self.assertIs(self.fit(("on", ("x",)), ("edg", ("x", "y"))), UnknownTable)
        self.assertIs(error_of(check_fit, (), PATH), UnknownTable)

    def test_number_of_columns(self):
        self.assertIs(self.fit(("on", ("x", "y"))), PatternError)
        self.assertIs(self.fit(("edge", ("x",))), PatternError)
        self.assertIs(self.fit(("on", ("x",)), ("edge", ("x", "y", "z"))), PatternError)

    def test_first_atom_with_an_error_decides(self):
        self.assertIs(self.fit(("off", ("x",)), ("on", ("x", "y"))), UnknownTable)
        self.assertIs(self.fit(("on", ("x", "y")), ("off", ("x",))), PatternError)
        self.assertIs(self.fit(("edge", ("x", "y")), ("on", ("x", "y")), ("off", ("x",))), PatternError)
        self.assertIs(self.fit(("edge", ("x", "y")), ("off", ("x",)), ("on", ("x", "y"))), UnknownTable)

    def test_order_of_errors(self):
        for pattern in (BAD_PATTERN, LARGE_PATTERN, PATH):
            self.assertIs(error_of(check_fit, BAD_CATALOGUE, pattern), CatalogueError)
            self.assertIs(error_of(check_fit, LARGE_CATALOGUE, pattern), TooLarge)
        self.assertIs(error_of(check_fit, HALL, BAD_PATTERN), PatternError)
        self.assertIs(error_of(check_fit, HALL, LARGE_PATTERN), TooLarge)
        self.assertIs(self.fit(("off", ("x",)), ("on", ())), PatternError)
        self.assertIs(self.fit(("off", ("x",)), *singles(8)), TooLarge)


class Variables(unittest.TestCase):
    """Point 302."""

    def test_order(self):
        self.assertEqual(variables_of(PATH), ("x", "z", "y"))
        self.assertEqual(variables_of(((), (("t", ("b", "a", "b")), ("u", ("a", "c")), ("v", ("b", "d"))))),
                         ("b", "a", "c", "d"))
        self.assertEqual(variables_of((("x",), (("t", ("x", "x", "x", "x")),))), ("x",))
        self.assertEqual(variables_of((("a", "z"), (("t", ("z", "y")), ("t", ("y", "a"))))), ("z", "y", "a"))
        self.assertTrue(is_plain(variables_of(PATH)))

    def test_full(self):
        atoms = (("edge", ("x", "z")), ("edge", ("z", "y")))
        for head, due in ((("x", "y", "z"), True), (("z", "x", "y"), True), (("x", "y"), False),
                          (("z",), False), ((), False)):
            self.assertIs(is_full((head, atoms)), due)
        self.assertIs(is_full((("x",), (("t", ("x", "x")), ("u", ("x",))))), True)
        self.assertIs(is_full(((), (("t", ("x",)),))), False)

    def test_errors(self):
        for call in (variables_of, is_full):
            self.assertIs(error_of(call, BAD_PATTERN), PatternError)
            self.assertIs(error_of(call, LARGE_PATTERN), TooLarge)
            self.assertIs(error_of(call, (("y",), (("t", ("x",)),))), PatternError)


if __name__ == "__main__":
    unittest.main()
