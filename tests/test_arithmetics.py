import itertools
import random
import unittest
from collections import Counter

from helper import error_of, is_plain
from joinhall.arithmetics import Arithmetic, add_ways, multiply_ways, turned
from joinhall.errors import KindError, WeightError

A = ("a", (1,))
B = ("a", (2,))
C = ("b", (-1, 0))
NOUGHT = ()
ONE = (((), 1),)
KINDS = ("count", "sum", "any", "least", "greatest", "ways")


def counted(p):
    """Return a polynomial as a Counter of its facts."""
    return Counter({facts: factor for facts, factor in p})


def written(counter):
    """Return the polynomial of a Counter."""
    return tuple(sorted(counter.items()))


def drawn_polynomial(dice):
    """Return a polynomial of few facts."""
    found = Counter()
    for _ in range(dice.randint(0, 5)):
        facts = tuple(sorted(dice.choice((A, B, C)) for _ in range(dice.randint(0, 4))))
        found[facts] += dice.randint(1, 3)
    return written(found)


def product_by_trying(p, q):
    found = Counter()
    for one, n in p:
        for other, m in q:
            found[tuple(sorted(one + other))] += n * m
    return written(found)


def turned_by_trying(p, weights, kind):
    """Return what a polynomial comes to, each pair written out as often as its factor says."""
    table = dict(weights)
    terms = [facts for facts, factor in p for _ in range(factor)]
    if kind == "count":
        return len(terms)
    if kind == "any":
        return 1 if terms else 0
    if kind == "ways":
        return p
    if kind == "sum":
        total = 0
        for facts in terms:
            product = 1
            for fact in facts:
                product *= table.get(fact, 1)
            total += product
        return total
    sums = [sum(table.get(fact, 0) for fact in facts) for facts in terms]
    best = min if kind == "least" else max
    return best(sums) if sums else None


class Polynomials(unittest.TestCase):
    """Point 902."""

    def check_form(self, p):
        self.assertTrue(is_plain(p))
        self.assertEqual(list(p), sorted(p))
        self.assertEqual(len({facts for facts, factor in p}), len(p))
        for facts, factor in p:
            self.assertEqual(facts, tuple(sorted(facts)))
            self.assertGreaterEqual(factor, 1)

    def test_sums(self):
        self.assertEqual(add_ways((((A,), 1),), (((B,), 2),)), (((A,), 1), ((B,), 2)))
        self.assertEqual(add_ways((((B,), 2),), (((A,), 1),)), (((A,), 1), ((B,), 2)))
        self.assertEqual(add_ways((((A,), 1), ((B,), 2)), (((A,), 3), ((C,), 1))), (((A,), 4), ((B,), 2), ((C,), 1)))
        self.assertEqual(add_ways(ONE, ONE), (((), 2),))
        self.assertEqual(add_ways((((A, A), 1),), (((A,), 1),)), (((A,), 1), ((A, A), 1)))

    def test_products(self):
        self.assertEqual(multiply_ways((((A,), 2),), (((B,), 3),)), (((A, B), 6),))
        self.assertEqual(multiply_ways((((B,), 2),), (((A,), 3),)), (((A, B), 6),))
        self.assertEqual(multiply_ways((((A,), 1),), (((A,), 1),)), (((A, A), 1),))
        self.assertEqual(multiply_ways((((A, C), 1),), (((A, B), 1),)), (((A, A, B, C), 1),))
        both = (((A,), 1), ((B,), 1))
        self.assertEqual(multiply_ways(both, both), (((A, A), 1), ((A, B), 2), ((B, B), 1)))
        self.assertEqual(multiply_ways((((), 2), ((A,), 1)), (((), 3), ((A,), 5))), (((), 6), ((A,), 13), ((A, A), 5)))

    def test_nought_and_one(self):
        p = (((), 4), ((A,), 1), ((A, A), 2), ((B, C), 3))
        self.assertEqual(add_ways(p, NOUGHT), p)
        self.assertEqual(add_ways(NOUGHT, p), p)
        self.assertEqual(add_ways(NOUGHT, NOUGHT), NOUGHT)
        self.assertEqual(multiply_ways(p, ONE), p)
        self.assertEqual(multiply_ways(ONE, p), p)
        self.assertEqual(multiply_ways(p, NOUGHT), NOUGHT)
        self.assertEqual(multiply_ways(NOUGHT, p), NOUGHT)
        self.assertEqual(multiply_ways(ONE, ONE), ONE)
        self.assertEqual(add_ways(p, ONE), (((), 5),) + p[1:])

    def test_facts_of_one_table_stand_by_their_rows(self):
        low, high = ("a", (-5,)), ("a", (3,))
        self.assertEqual(multiply_ways((((high,), 1),), (((low,), 1),)), (((low, high), 1),))
        self.assertEqual(multiply_ways((((C,), 1),), (((high,), 1),)), (((high, C), 1),))

    def test_drawn_ones(self):
        dice = random.Random(902)
        for _ in range(400):
            p, q, r = (drawn_polynomial(dice) for _ in range(3))
            total, product = add_ways(p, q), multiply_ways(p, q)
            self.check_form(total)
            self.check_form(product)
            self.assertEqual(total, written(counted(p) + counted(q)))
            self.assertEqual(product, product_by_trying(p, q))
            self.assertEqual((total, product), (add_ways(q, p), multiply_ways(q, p)))
            self.assertEqual(multiply_ways(total, r), add_ways(multiply_ways(p, r), multiply_ways(q, r)))

    def test_they_have_no_limit_of_pairs(self):
        many = tuple(((("a", (n,)),), 1) for n in range(1500))
        others = tuple(((("b", (n,)),), 1) for n in range(1500))
        self.assertEqual(add_ways(many, others), many + others)
        self.assertEqual(len(multiply_ways(many[:60], others[:60])), 3600)


class Kinds(unittest.TestCase):
    """Point 901."""

    def check(self, kind, values, plus, times):
        scale = Arithmetic(kind, ())
        self.assertEqual((scale.plus(values), scale.times(values)), (plus, times), (kind, values))

    def test_nought_and_one(self):
        for kind, nought, one in (("count", 0, 1), ("sum", 0, 1), ("any", 0, 1), ("least", None, 0),
                                  ("greatest", None, 0), ("ways", NOUGHT, ONE)):
            self.check(kind, [], nought, one)
            # Nought changes no plus, and one no times; nought with anything is nought.
            self.check(kind, [nought, one], one, nought)
            self.check(kind, [one, nought, one], Arithmetic(kind, ()).plus([one, one]), nought)

    def test_plus_and_times(self):
        for kind in ("count", "sum"):
            self.check(kind, [2, 3, 4], 9, 24)
            self.check(kind, [-2, 3], 1, -6)
        for values in itertools.product((0, 1), repeat=2):
            self.check("any", list(values), max(values), min(values))
        self.check("least", [4, -2, 3], -2, 5)
        self.check("greatest", [4, -2, 3], 4, 5)
        self.check("least", [None, 7, None], 7, None)
        self.check("greatest", [-7, None], -7, None)
        self.check("least", [None, None], None, None)
        p, q = (((A,), 2),), (((A,), 1), ((B,), 1))
        self.check("ways", [p, q], (((A,), 3), ((B,), 1)), (((A, A), 2), ((A, B), 2)))
        self.check("ways", [p, p, p], (((A,), 6),), (((A, A, A), 8),))


class Turned(unittest.TestCase):
    """Point 905, and what point 901 says of each arithmetic."""

    def turn(self, p, **due):
        weights = ((A, 3), (C, -2))
        for kind, value in due.items():
            told = turned(p, weights, kind)
            self.assertEqual(told, value, kind)
            self.assertIs(type(told), type(value), kind)

    def test_nought(self):
        self.turn(NOUGHT, count=0, sum=0, any=0, least=None, greatest=None, ways=())

    def test_one(self):
        self.turn(ONE, count=1, sum=1, any=1, least=0, greatest=0, ways=ONE)

    def test_facts_with_a_weight(self):
        self.turn((((A,), 1),), count=1, sum=3, any=1, least=3, greatest=3, ways=(((A,), 1),))
        self.turn((((A, C), 1),), count=1, sum=-6, any=1, least=1, greatest=1, ways=(((A, C), 1),))
        self.turn((((A, A), 1),), count=1, sum=9, least=6, greatest=6)
        self.turn((((C, C, C), 1),), count=1, sum=-8, least=-6, greatest=-6)

    def test_facts_without_a_weight(self):
        self.turn((((B,), 1),), count=1, sum=1, any=1, least=0, greatest=0, ways=(((B,), 1),))
        self.turn((((A, B), 1),), count=1, sum=3, any=1, least=3, greatest=3)

    def test_factors(self):
        p = (((A,), 4),)
        self.turn(p, count=4, sum=12, any=1, least=3, greatest=3, ways=p)
        p = (((), 2), ((A, B), 10 ** 30))
        self.turn(p, count=10 ** 30 + 2, sum=3 * 10 ** 30 + 2, any=1, least=0, greatest=3, ways=p)

    def test_several_pairs(self):
        p = (((A,), 1), ((A, C), 2), ((B, C), 1), ((C, C), 1))
        self.turn(p, count=5, sum=3 - 12 - 2 + 4, any=1, least=-4, greatest=3, ways=p)

    def test_weight_of_nought(self):
        p = (((A,), 2), ((B,), 1))
        self.assertEqual(turned(p, ((A, 0),), "sum"), 1)
        self.assertEqual(turned(p, ((A, 0), (B, 0)), "sum"), 0)
        self.assertEqual(turned(p, ((A, 0), (B, 0)), "count"), 3)
        self.assertEqual(turned(p, ((A, 0), (B, 0)), "any"), 1)
        self.assertEqual(turned(p, ((A, -7), (B, 0)), "greatest"), 0)

    def test_drawn_ones(self):
        dice = random.Random(905)
        for _ in range(300):
            p = drawn_polynomial(dice)
            weights = tuple((fact, dice.randint(-4, 4)) for fact in (A, B, C) if dice.random() < 0.6)
            for kind in KINDS:
                told = turned(p, weights, kind)
                self.assertEqual(told, turned_by_trying(p, weights, kind), (p, weights, kind))
                self.assertIsNot(type(told), bool)

    def test_it_goes_through_sums_and_products(self):
        dice = random.Random(906)
        weights = ((A, 2), (B, -3), (C, 5))
        ends = {"count": (sum, lambda a, b: a * b), "sum": (sum, lambda a, b: a * b), "any": (max, min)}
        for _ in range(100):
            p, q = drawn_polynomial(dice), drawn_polynomial(dice)
            for kind, (plus, times) in ends.items():
                a, b = turned(p, weights, kind), turned(q, weights, kind)
                self.assertEqual(turned(add_ways(p, q), weights, kind), plus([a, b]))
                self.assertEqual(turned(multiply_ways(p, q), weights, kind), times(a, b))

    def test_facts_need_not_be_in_the_polynomial(self):
        self.assertEqual(turned(ONE, ((("z", (9,)), 4),), "sum"), 1)
        self.assertEqual(turned((((A,), 1),), ((B, 5), (("z", (9,)), 4)), "least"), 0)

    def test_errors(self):
        descending = ((B, 1), (A, 1))
        twice = ((A, 1), (A, 2))
        for wrong in ("", "Count", "counts", "max", "min", "way", "sum ", "c"):
            for weights in ((), descending, twice):
                self.assertIs(error_of(turned, ONE, weights, wrong), KindError)
        for kind, weights in itertools.product(KINDS, (descending, twice, ((A, 1), (C, 1), (B, 1)), ((A, 5), (A, 5)))):
            for p in (NOUGHT, ONE, (((A,), 2),)):
                self.assertIs(error_of(turned, p, weights, kind), WeightError, (kind, weights))


if __name__ == "__main__":
    unittest.main()
