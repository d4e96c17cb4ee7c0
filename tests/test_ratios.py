import unittest
from fractions import Fraction
from math import gcd

from helper import error_of, is_plain
from joinhall.errors import ZeroDenominator
from joinhall.ratios import compare, fraction, minus, plus, times, total

SMALL = [fraction(n, d) for n in range(-6, 7) for d in range(1, 7)]
BIG = 10 ** 60 + 1


def as_pair(value):
    return (value.numerator, value.denominator)


class Fractions(unittest.TestCase):
    """Point 101."""

    def check_lowest(self, pair):
        self.assertTrue(is_plain(pair))
        self.assertEqual(len(pair), 2)
        self.assertGreaterEqual(pair[1], 1)
        self.assertEqual(gcd(*pair), 1)

    def test_signs(self):
        self.assertEqual(fraction(6, 4), (3, 2))
        self.assertEqual(fraction(-6, 4), (-3, 2))
        self.assertEqual(fraction(6, -4), (-3, 2))
        self.assertEqual(fraction(-6, -4), (3, 2))

    def test_whole_numbers(self):
        self.assertEqual(fraction(7, 1), (7, 1))
        self.assertEqual(fraction(7, -1), (-7, 1))
        self.assertEqual(fraction(12, 4), (3, 1))

    def test_nought(self):
        for denominator in (1, -1, 5, -5, BIG, -BIG):
            self.assertEqual(fraction(0, denominator), (0, 1))

    def test_many_figures(self):
        self.assertEqual(fraction(BIG * 6, BIG * 4), (3, 2))
        self.assertEqual(fraction(BIG * 6, -BIG * 4), (-3, 2))
        self.assertEqual(fraction(BIG, BIG - 1), (BIG, BIG - 1))
        self.assertEqual(plus((1, BIG), (1, BIG + 1)), as_pair(Fraction(1, BIG) + Fraction(1, BIG + 1)))
        self.assertEqual(compare((BIG, BIG + 1), (BIG + 1, BIG + 2)), -1)

    def test_zero_denominator(self):
        for numerator in (-1, 0, 1, BIG):
            self.assertIs(error_of(fraction, numerator, 0), ZeroDenominator)

    def test_all_small_pairs(self):
        for n in range(-12, 13):
            for d in list(range(-12, 0)) + list(range(1, 13)):
                self.check_lowest(fraction(n, d))
                self.assertEqual(fraction(n, d), as_pair(Fraction(n, d)))

    def test_sums_differences_products(self):
        for a in SMALL:
            for b in SMALL:
                x, y = Fraction(*a), Fraction(*b)
                for got, due in ((plus(a, b), x + y), (minus(a, b), x - y), (times(a, b), x * y)):
                    self.check_lowest(got)
                    self.assertEqual(got, as_pair(due))

    def test_compare(self):
        self.assertEqual(compare((1, 3), (1, 2)), -1)
        self.assertEqual(compare((1, 2), (1, 2)), 0)
        self.assertEqual(compare((1, 2), (1, 3)), 1)
        self.assertEqual(compare((-1, 2), (-1, 3)), -1)
        for a in SMALL:
            for b in SMALL:
                x, y = Fraction(*a), Fraction(*b)
                self.assertEqual(compare(a, b), (x > y) - (x < y))

    def test_total(self):
        self.assertEqual(total(()), (0, 1))
        self.assertEqual(total(((-3, 4),)), (-3, 4))
        self.assertEqual(total(((1, 2), (1, 3), (1, 6))), (1, 1))
        self.assertEqual(total(((1, 2), (-1, 2))), (0, 1))
        self.assertEqual(total(tuple(SMALL)), as_pair(sum(Fraction(*a) for a in SMALL)))


if __name__ == "__main__":
    unittest.main()
