import unittest

from helper import BAD_PATTERN, LARGE_PATTERN, error_of, is_plain
from joinhall.errors import PatternError, TextError, TooLarge
from joinhall.texts import read_pattern, write_pattern

PATH = (("x", "y"), (("edge", ("x", "z")), ("edge", ("z", "y"))))
PATH_TEXT = "x, y <- edge(x, z), edge(z, y)"
PAIRS = (
    (PATH, PATH_TEXT),
    (((), (("t", ("x",)),)), "<- t(x)"),
    ((("x",), (("t", ("x",)),)), "x <- t(x)"),
    (((), (("edge", ("x", "x")), ("t2", ("y1",)))), "<- edge(x, x), t2(y1)"),
    ((("d", "b"), (("w", ("a", "b", "c", "d")),)), "d, b <- w(a, b, c, d)"),
    ((("t",), (("t", ("t",)), ("t", ("t",)))), "t <- t(t), t(t)"),
)
WRONG = (
    "", " ", "\n", "<-", "<- ", " <- ", "x", "x <-", "x <- ", "t(x)", "x t(x)", "<- t", "x <- t",
    # spaces
    " <- t(x)", "<-t(x)", "<-  t(x)", " x <- t(x)", "x<- t(x)", "x  <- t(x)", "x <-t(x)", "x <-  t(x)",
    "x <- t(x) ", "x <- t (x)", "x <- t( x)", "x <- t(x )", "x <- t(x,y)", "x <- t(x , y)", "x <- t(x,  y)",
    "x <- t(x),u(x)", "x <- t(x) , u(x)", "x <- t(x),  u(x)", "x,y <- t(x, y)", "x,  y <- t(x, y)",
    "x , y <- t(x, y)", "x y <- t(x, y)", "x <- t(x y)", "x <- t(x) u(x)", "x\t<- t(x)", "x <- t(x)\n", "\nx <- t(x)",
    # commas
    ", x <- t(x)", "x, <- t(x)", "x,  <- t(x)", "x, , y <- t(x, y)", "x <- , t(x)", "x <- t(x),", "x <- t(x), ",
    "x <- t(x), , t(x)", "x <- t(, x)", "x <- t(x,)", "x <- t(x, )", "x <- t(x,, y)", "x <- t(x)t(x)", "x; y <- t(x, y)",
    # brackets
    "x <- t(x", "x <- t x)", "x <- tx)", "x <- t((x)", "x <- t(x))", "x <- (t(x))", "x <- t[x]", "x <- t)x(", "x <- )t(x",
    "x <- t(x, u(x)", "x <- t(x), u(x", "x <- tx), u(x)", "x <- t(x), ux)", "x <- t(u(x))", "(x) <- t(x)", "x <- t(x)(x)",
    "x <- t(x)), u(x)", "x <- t(x), (u(x)", "x <- t(xx", "x <- t(x]", "x <- t(x, y,", "x <- t(x), u(xx",
    # the arrow
    "x -> t(x)", "x < - t(x)", "x - t(x)", "x < t(x)", "x <-- t(x)", "x <<- t(x)", "x <- <- t(x)", "<- <- t(x)",
    "x <- y <- t(x)", "<- x <- t(x)", "x <= t(x)", "x :- t(x)", "x <- t(x) <- t(x)", "x <- t(x) <-",
    # names, atoms and brackets that are empty
    "x <- (x)", "x <- t()", "<- t()", "x <- t(x), u()", "x <- t(x), (x)", "<- ()", "<- )", "<- (", "<- , ",
    # characters that no name has
    "X <- t(X)", "x <- T(x)", "x_y <- t(x_y)", "x <- t(x-y)", "\u00e9 <- t(\u00e9)", "x <- t(x\u0663)", "x <- t(x.)",
    "x <- t(x\u00b2)", "x <- t(\"x\")", "x <- t(x\u00a0)", "x <- t(x\r)", "x <- t{(x)", "x <- t`(x)", "x <- t/(x)",
)


class Texts(unittest.TestCase):
    """Point 304."""

    def test_writing(self):
        for pattern, text in PAIRS:
            self.assertEqual(write_pattern(pattern), text)

    def test_reading(self):
        for pattern, text in PAIRS:
            self.assertEqual(read_pattern(text), pattern)
            self.assertTrue(is_plain(read_pattern(text)))
            self.assertEqual(write_pattern(read_pattern(text)), text)

    def test_eight_atoms(self):
        pattern = (("v7", "v0"), tuple((f"t{n}", (f"v{n}", f"v{7 - n}")) for n in range(8)))
        self.assertEqual(read_pattern(write_pattern(pattern)), pattern)

    def test_errors_of_writing(self):
        self.assertIs(error_of(write_pattern, BAD_PATTERN), PatternError)
        self.assertIs(error_of(write_pattern, LARGE_PATTERN), TooLarge)

    def test_wrong_texts(self):
        for text in WRONG:
            self.assertIs(error_of(read_pattern, text), TextError, repr(text))

    def test_each_sign_left_out(self):
        # Without some letters it is still the text of a pattern, or of none.
        for at, sign in enumerate(PATH_TEXT):
            if sign not in "xyzedg":
                text = PATH_TEXT[:at] + PATH_TEXT[at + 1:]
                self.assertIs(error_of(read_pattern, text), TextError, repr(text))

    def test_each_sign_twice(self):
        for at, sign in enumerate(PATH_TEXT):
            if sign not in "xyzedg":
                text = PATH_TEXT[:at] + sign + PATH_TEXT[at:]
                self.assertIs(error_of(read_pattern, text), TextError, repr(text))

    def test_another_sign_anywhere(self):
        for at in range(len(PATH_TEXT) + 1):
            for sign in " ,()<-\n_A\t":
                text = PATH_TEXT[:at] + sign + PATH_TEXT[at:]
                self.assertIs(error_of(read_pattern, text), TextError, repr(text))

    def test_signs_exchanged(self):
        for at in range(len(PATH_TEXT) - 1):
            first, second = PATH_TEXT[at:at + 2]
            # A bracket that is drawn into a name in front of it gives another right text.
            if first != second and second != "(" and not (first.isalpha() and second.isalpha()):
                text = PATH_TEXT[:at] + second + first + PATH_TEXT[at + 2:]
                self.assertIs(error_of(read_pattern, text), TextError, repr(text))

    def test_no_pattern(self):
        wrong = (
            "1x <- t(1x)", "<- 1t(x)", "<- 1(x)", "<- t(7)", "abcdefghijklmnopqrstu <- t(abcdefghijklmnopqrstu)",
            "y <- t(x)", "x, x <- t(x)", "<- t(a, b, c, d, e)", "<- t(x), t(x, y)",
        )
        for text in wrong:
            self.assertIs(error_of(read_pattern, text), PatternError, text)

    def test_too_large(self):
        self.assertIs(error_of(read_pattern, "<- " + ", ".join(["t(x)"] * 9)), TooLarge)
        self.assertIs(error_of(read_pattern, "<- t(a, b, c), t(d, e, f), t(g, h, i)"), TooLarge)
        self.assertIs(error_of(read_pattern, "y <- " + ", ".join(["t(x)"] * 9)), PatternError)
        self.assertIs(error_of(read_pattern, "<- " + ", ".join(["t(x)"] * 9) + ", t"), TextError)


if __name__ == "__main__":
    unittest.main()
