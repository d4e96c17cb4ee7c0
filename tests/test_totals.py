import itertools
import random
import unittest
from collections import Counter
from math import prod

from helper import (
    BAD_CATALOGUE, BAD_PATTERN, LARGE_CATALOGUE, LARGE_PATTERN, circle, error_of, explained_by_trying, facts_in,
    is_plain, large_pattern, random_case, star, table_with, whole_graph,
)
from joinhall.arithmetics import add_ways, turned
from joinhall.errors import CatalogueError, KindError, PatternError, TooLarge, UnknownTable, WeightError
from joinhall.joins import answers
from joinhall.texts import read_pattern
from joinhall.totals import totals, whole_total

KINDS = ("count", "sum", "any", "least", "greatest", "ways")
NOUGHT = {"count": 0, "sum": 0, "any": 0, "least": None, "greatest": None, "ways": ()}
HALL = (("e", 2, ((1, 2), (1, 3), (2, 3), (3, 3))), ("none", 1, ()), ("on", 1, ((2,), (3,))))
WEIGHTS = ((("e", (1, 2)), 5), (("e", (1, 3)), -2), (("on", (3,)), 7))
PATH = read_pattern("x, z <- e(x, y), e(y, z)")
EIGHT = read_pattern("<- " + ", ".join(f"t({name})" for name in "abcdefgh"))


def total_by_trying(weights, kind, uses):
    """Return the total of fitting assignments that use these lists of facts."""
    table = dict(weights)
    if kind == "count":
        return len(uses)
    if kind == "any":
        return 1 if uses else 0
    if kind == "ways":
        return tuple(sorted(Counter(tuple(sorted(facts)) for facts in uses).items()))
    if kind == "sum":
        return sum(prod(table.get(fact, 1) for fact in facts) for facts in uses)
    sums = [sum(table.get(fact, 0) for fact in facts) for facts in uses]
    best = min if kind == "least" else max
    return best(sums) if sums else None


def drawn_weights(dice, catalogue):
    return tuple((fact, dice.randint(-3, 3)) for fact in facts_in(catalogue) if dice.random() < 0.6)


def plus(kind, values):
    """Return the plus of values, told in the test's own way."""
    if kind in ("count", "sum"):
        return sum(values)
    if kind == "any":
        return max(values, default=0)
    if kind == "ways":
        total = ()
        for value in values:
            total = add_ways(total, value)
        return total
    known = [value for value in values if value is not None]
    return (min if kind == "least" else max)(known, default=None)


def both(*arguments):
    """Return the errors of totals and of whole_total."""
    return error_of(totals, *arguments), error_of(whole_total, *arguments)


class Totals(unittest.TestCase):
    """Points 901, 903 and 904."""

    def told(self, pattern, kind, weights=WEIGHTS):
        return totals(HALL, weights, read_pattern(pattern), kind)

    def test_by_hand(self):
        # The ways are 1 2 3 and 1 3 3 to (1, 3), 2 3 3 to (2, 3), 3 3 3 to (3, 3).
        path = "x, z <- e(x, y), e(y, z)"
        self.assertEqual(self.told(path, "count"), (((1, 3), 2), ((2, 3), 1), ((3, 3), 1)))
        self.assertEqual(self.told(path, "sum"), (((1, 3), 5 * 1 - 2 * 1), ((2, 3), 1), ((3, 3), 1)))
        self.assertEqual(self.told(path, "any"), (((1, 3), 1), ((2, 3), 1), ((3, 3), 1)))
        self.assertEqual(self.told(path, "least"), (((1, 3), -2), ((2, 3), 0), ((3, 3), 0)))
        self.assertEqual(self.told(path, "greatest"), (((1, 3), 5), ((2, 3), 0), ((3, 3), 0)))
        ways = (
            ((1, 3), (((("e", (1, 2)), ("e", (2, 3))), 1), ((("e", (1, 3)), ("e", (3, 3))), 1))),
            ((2, 3), (((("e", (2, 3)), ("e", (3, 3))), 1),)),
            ((3, 3), (((("e", (3, 3)), ("e", (3, 3))), 1),)),
        )
        self.assertEqual(self.told(path, "ways"), ways)

    def test_whole_by_hand(self):
        for kind, due in (("count", 4), ("sum", 5), ("any", 1), ("least", -2), ("greatest", 5)):
            self.assertEqual(whole_total(HALL, WEIGHTS, PATH, kind), due)
        ways = whole_total(HALL, WEIGHTS, read_pattern("<- e(x, y), e(y, x)"), "ways")
        self.assertEqual(ways, (((("e", (3, 3)), ("e", (3, 3))), 1),))

    def test_the_head_has_a_part_of_the_variables(self):
        self.assertEqual(self.told("y <- e(x, y), e(y, z)", "count"), (((2,), 1), ((3,), 3)))
        self.assertEqual(self.told("z, x <- e(x, y), e(y, z)", "count"), (((3, 1), 2), ((3, 2), 1), ((3, 3), 1)))
        self.assertEqual(self.told("z <- e(x, y), e(y, z), on(z)", "sum"), (((3,), 7 * 5),))

    def test_empty_head(self):
        for kind in KINDS:
            pattern = ((), PATH[1])
            whole = whole_total(HALL, WEIGHTS, pattern, kind)
            self.assertEqual(totals(HALL, WEIGHTS, pattern, kind), (((), whole),))

    def test_no_answers(self):
        for text in ("x <- e(x, y), none(x)", "<- none(x)", "x <- e(x, y), on(z), none(u)",
                     "x, y <- e(y, x), e(x, z), none(y)"):
            for kind in KINDS:
                self.assertEqual(self.told(text, kind), ())
                whole = whole_total(HALL, WEIGHTS, read_pattern(text), kind)
                self.assertEqual(whole, NOUGHT[kind])
                self.assertIs(type(whole), type(NOUGHT[kind]))

    def test_an_atom_twice(self):
        text = "y <- e(x, y), e(x, y), on(y)"
        low, high, last = ("e", (1, 3)), ("e", (2, 3)), ("e", (3, 3))
        self.assertEqual(self.told(text, "count"), (((2,), 1), ((3,), 3)))
        self.assertEqual(self.told(text, "sum"), (((2,), 25), ((3,), (4 + 1 + 1) * 7)))
        self.assertEqual(self.told(text, "least"), (((2,), 10), ((3,), -4 + 7)))
        three = ("on", (3,))
        due = (((low, low, three), 1), ((high, high, three), 1), ((last, last, three), 1))
        self.assertEqual(self.told(text, "ways")[1], ((3,), due))
        self.assertEqual(whole_total(HALL, WEIGHTS, read_pattern(text), "sum"), 25 + 42)

    def test_several_assignments_with_the_same_facts(self):
        hall = (table_with(2),)
        pair = read_pattern("<- t(x), t(y)")
        one, two = ("t", (0,)), ("t", (1,))
        due = (((one, one), 1), ((one, two), 2), ((two, two), 1))
        self.assertEqual(totals(hall, (), pair, "ways"), (((), due),))
        self.assertEqual(whole_total(hall, (), pair, "ways"), due)

    def test_weights_of_other_tables_and_none(self):
        weights = ((("e", (2, 3)), 4), (("on", (2,)), 100), (("on", (3,)), -100))
        self.assertEqual(self.told("x, z <- e(x, y), e(y, z)", "sum", weights), (((1, 3), 5), ((2, 3), 4), ((3, 3), 1)))
        for kind in KINDS:
            self.assertEqual(totals(HALL, (), PATH, kind), totals(HALL, ((("on", (2,)), 9),), PATH, kind))

    def test_weights_are_left_out_of_account(self):
        for kind in ("count", "any", "ways"):
            self.assertEqual(totals(HALL, WEIGHTS, PATH, kind), totals(HALL, (), PATH, kind))
            self.assertEqual(whole_total(HALL, WEIGHTS, PATH, kind), whole_total(HALL, (), PATH, kind))

    def test_a_weight_of_nought_leaves_the_answer_there(self):
        zero = tuple((fact, 0) for fact in facts_in(HALL))
        self.assertEqual(totals(HALL, zero, PATH, "sum"), (((1, 3), 0), ((2, 3), 0), ((3, 3), 0)))
        self.assertEqual(whole_total(HALL, zero, PATH, "sum"), 0)

    def test_negative_weights(self):
        weights = tuple((fact, -1) for fact in facts_in(HALL))
        self.assertEqual(self.told("x <- e(x, y)", "sum", weights), (((1,), -2), ((2,), -1), ((3,), -1)))
        self.assertEqual(self.told("x <- e(x, y)", "greatest", weights), (((1,), -1), ((2,), -1), ((3,), -1)))

    def test_drawn_ones(self):
        dice = random.Random(904)
        for _ in range(250):
            catalogue, pattern = random_case(dice)
            weights = drawn_weights(dice, catalogue)
            uses = explained_by_trying(catalogue, pattern)
            polynomials = totals(catalogue, weights, pattern, "ways")
            for kind in KINDS:
                told = totals(catalogue, weights, pattern, kind)
                due = tuple((one, total_by_trying(weights, kind, uses[one])) for one in sorted(uses))
                self.assertEqual(told, due, (catalogue, weights, pattern, kind))
                turns = tuple((one, turned(p, weights, kind)) for one, p in polynomials)
                self.assertEqual(told, turns)
                whole = whole_total(catalogue, weights, pattern, kind)
                self.assertEqual(whole, plus(kind, [value for one, value in told]), (catalogue, weights, pattern, kind))
                self.assertNotIn(bool, (type(whole), *[type(value) for one, value in told]))
            self.assertTrue(is_plain(polynomials))
            self.assertEqual(tuple(one for one, p in polynomials), answers(catalogue, pattern))

    def test_whole_of_patterns_of_full_size(self):
        dice = random.Random(903)
        for _ in range(60):
            catalogue = []
            for columns in (1, 2, 3, 4):
                rows = {tuple(dice.randint(0, 2) for _ in range(columns)) for _ in range(dice.randint(1, 9))}
                catalogue.append((f"t{columns}", columns, tuple(sorted(rows))))
            catalogue = tuple(catalogue)
            pattern = large_pattern(dice)
            weights = drawn_weights(dice, catalogue)
            uses = explained_by_trying(catalogue, pattern).get((), [])
            for kind in KINDS:
                due = total_by_trying(weights, kind, uses)
                if kind == "ways" and len(due) > 2000:
                    self.assertIs(error_of(whole_total, catalogue, weights, pattern, kind), TooLarge)
                else:
                    self.assertEqual(whole_total(catalogue, weights, pattern, kind), due)


class Large(unittest.TestCase):
    """Point 904, where a list of the fitting assignments is out of the question."""

    def test_product(self):
        hall = (table_with(300),)
        weights = tuple((("t", (n,)), n - 100) for n in range(300))
        whole = 300 ** 8
        self.assertEqual(whole_total(hall, weights, EIGHT, "count"), whole)
        self.assertEqual(whole_total(hall, weights, EIGHT, "sum"), sum(n - 100 for n in range(300)) ** 8)
        self.assertEqual(whole_total(hall, weights, EIGHT, "any"), 1)
        self.assertEqual(whole_total(hall, weights, EIGHT, "least"), -800)
        self.assertEqual(whole_total(hall, weights, EIGHT, "greatest"), 8 * 199)
        self.assertIs(error_of(whole_total, hall, weights, EIGHT, "ways"), TooLarge)

    def test_paths_stars_and_circles(self):
        hall = (("e", 2, tuple(itertools.product(range(17), repeat=2))),)
        weights = tuple((("e", (a, b)), a - b) for a, b in hall[0][2])
        path = ((), circle(8)[1][:7])
        for pattern, many in ((path, 17 ** 8), (star(7), 17 ** 8), (circle(8), 17 ** 8), (whole_graph(4), 17 ** 4)):
            self.assertEqual(whole_total(hall, weights, pattern, "count"), many)
            self.assertEqual(whole_total(hall, weights, pattern, "any"), 1)
            self.assertIs(error_of(whole_total, hall, weights, pattern, "ways"), TooLarge)
        # What a path loses and wins on its way adds up to the difference of its ends.
        self.assertEqual(whole_total(hall, weights, path, "least"), -16)
        self.assertEqual(whole_total(hall, weights, path, "greatest"), 16)
        self.assertEqual(whole_total(hall, weights, circle(8), "least"), 0)
        self.assertEqual(whole_total(hall, weights, circle(8), "greatest"), 0)
        self.assertEqual(whole_total(hall, weights, star(7), "greatest"), 7 * 16)
        ones = tuple((fact, 1 if fact[1][0] < 5 else -1) for fact in facts_in(hall))
        self.assertEqual(whole_total(hall, ones, star(7), "sum"), (5 - 12) ** 7 * 17)

    def test_few_assignments_among_many_partial_answers(self):
        hall = (("e", 2, tuple((n, n) for n in range(300))),)
        for pattern in (circle(8), star(7), ((), circle(8)[1][:7]), whole_graph(4)):
            for kind, due in (("count", 300), ("sum", 300), ("any", 1), ("least", 0), ("greatest", 0)):
                self.assertEqual(whole_total(hall, (), pattern, kind), due)
            self.assertEqual(len(whole_total(hall, (), pattern, "ways")), 300)

    def test_a_hub(self):
        rows = sorted([(0, n) for n in range(150)] + [(n, 0) for n in range(1, 150)])
        hall = (("e", 2, tuple(rows)),)
        # The number of closed walks: of two neighbours at least one is 0.
        walks = [2, 1]
        for _ in range(7):
            walks.append(walks[-1] + 149 * walks[-2])
        for size in (4, 6, 8):
            self.assertEqual(whole_total(hall, (), circle(size), "count"), walks[size])

    def test_one_star_within_a_wider_pattern(self):
        # The bag of an atom with four variables must not be a reason for others as wide.
        hall = (("e", 2, tuple((n, 0) for n in range(300))), ("f", 4, tuple((n, 0, 0, 0) for n in range(300))))
        for text in ("<- e(a, z), e(b, z), e(c, z), f(h, u, v, w), e(u, v), e(v, w), e(w, u)",
                     "<- e(b, a), e(c, a), e(d, a), f(h, u, v, w), e(u, v), e(v, w), e(w, u)"):
            self.assertEqual(whole_total(hall, (), read_pattern(text), "count"), 300 ** 4)

    def test_a_bag_of_the_side_with_few_integers(self):
        hall = (("e", 2, tuple((n, 0) for n in range(300))),)
        for text in ("<- e(a, x), e(a, y), e(a, z), e(b, x), e(b, y), e(b, z), e(c, x), e(c, y)",
                     "<- e(x, a), e(x, b), e(x, c), e(y, a), e(y, b), e(y, c), e(z, a), e(z, b)"):
            self.assertEqual(whole_total(hall, (), read_pattern(text), "count"), 300 ** 3)


class Limits(unittest.TestCase):
    """Point 904: TooLarge."""

    def test_as_answers(self):
        pair = read_pattern("x <- a(x), b(y)")
        hall = (table_with(201, "a"), table_with(100, "b"))
        for kind in KINDS:
            self.assertIs(error_of(totals, hall, (), pair, kind), TooLarge)
        self.assertEqual(whole_total(hall, (), pair, "count"), 20100)
        smaller = (table_with(200, "a"), table_with(100, "b"))
        self.assertEqual(totals(smaller, (), pair, "count"), tuple(((n,), 100) for n in range(200)))
        # What counts is what is visited in the order of the variables, not what fits.
        hall = (table_with(201, "a"), table_with(100, "b"), ("c", 2, ((0, 0),)))
        visits = read_pattern("<- a(x), b(y), a(z), c(x, z)")
        self.assertEqual(totals(hall, (), visits, "count"), (((), 100),))
        wide = (table_with(150, "a"), ("c", 2, tuple((n, n) for n in range(150))))
        self.assertIs(error_of(totals, wide, (), read_pattern("<- a(x), a(y), c(x, z), c(z, y)"), "any"), TooLarge)
        self.assertEqual(whole_total(wide, (), read_pattern("<- a(x), a(y), c(x, z), c(z, y)"), "count"), 150)

    def test_pairs_of_a_polynomial(self):
        pair = read_pattern("<- a(x), b(y)")
        for a, b in ((50, 40), (2, 250), (8, 250)):
            hall = (table_with(a, "a"), table_with(b, "b"))
            self.assertEqual(len(whole_total(hall, (), pair, "ways")), a * b)
            self.assertEqual(len(totals(hall, (), pair, "ways")[0][1]), a * b)
        for a, b in ((87, 23), (69, 29), (200, 100)):
            hall = (table_with(a, "a"), table_with(b, "b"))
            self.assertEqual(both(hall, (), pair, "ways"), (TooLarge, TooLarge))
            self.assertEqual(both(hall, (), pair, "count"), (None, None))

    def test_pairs_of_each_total(self):
        pair = read_pattern("x <- a(x), b(y)")
        hall = (table_with(87, "a"), table_with(23, "b"))
        self.assertEqual([len(p) for one, p in totals(hall, (), pair, "ways")], [23] * 87)
        self.assertIs(error_of(whole_total, hall, (), pair, "ways"), TooLarge)

    def test_assignments_with_the_same_facts_are_one_pair(self):
        pair = read_pattern("<- t(x), t(y)")
        for size, many in ((62, 1953), (63, None)):
            hall = (table_with(size),)
            if many is None:
                self.assertEqual(both(hall, (), pair, "ways"), (TooLarge, TooLarge))
            else:
                self.assertEqual(len(whole_total(hall, (), pair, "ways")), many)
                self.assertEqual(len(totals(hall, (), pair, "ways")[0][1]), many)
        # Far more assignments than pairs: 6 ** 8 of them, but a pair tells only how often each row is used.
        self.assertEqual(len(whole_total((table_with(6),), (), EIGHT, "ways")), 1287)
        self.assertEqual(sum(factor for facts, factor in whole_total((table_with(6),), (), EIGHT, "ways")), 6 ** 8)

    def test_what_leads_nowhere_does_not_count(self):
        rows = tuple((n // 100, n) for n in range(300))
        hall = (("e", 2, rows), ("f", 2, rows), ("one", 2, ((0, 0), (1, 1), (2, 2))), ("two", 1, ((7,),)))
        for text in ("<- e(x, y), f(x, z), two(x)", "<- one(x, y), e(x, u), f(x, v), two(y)",
                     "<- two(y), one(y, x), e(x, u), f(x, v)"):
            pattern = read_pattern(text)
            self.assertEqual(whole_total(hall, (), pattern, "ways"), ())
            self.assertEqual(totals(hall, (), pattern, "ways"), ())
        few = hall[:3] + (("two", 1, ((2,),)), ("vast", 2, tuple((0, n) for n in range(300))))
        pattern = read_pattern("<- vast(k, u), vast(k, v), one(k, y), two(y)")
        self.assertEqual(whole_total(few, (), pattern, "ways"), ())
        more = few[:4] + (("vast", 2, tuple((0, n) for n in range(299)) + ((2, 5),)),)
        due = ((("one", (2, 2)), ("two", (2,)), ("vast", (2, 5)), ("vast", (2, 5))), 1)
        self.assertEqual(whole_total(more, (), pattern, "ways"), (due,))


    def test_what_leads_nowhere_in_the_distance(self):
        hall = (("a", 2, ((0, 0), (1, 1))), ("b", 2, ((0, 0), (1, 1))), ("c", 1, ((1,), (8,), (9,))),
                ("e", 2, tuple((0, n) for n in range(299)) + ((1, 7),)))
        due = ((("a", (1, 1)), ("b", (1, 1)), ("c", (1,)), ("e", (1, 7)), ("e", (1, 7))), 1)
        # The names decide where the tree begins, and what comes first in it.
        for k, m, n, u, v in itertools.permutations("klmno"):
            pattern = read_pattern(f"<- e({k}, {u}), e({k}, {v}), a({k}, {m}), b({m}, {n}), c({n})")
            self.assertEqual(whole_total(hall, (), pattern, "ways"), (due,))


class Errors(unittest.TestCase):
    """Point 904."""

    def test_kind(self):
        for kind in ("", "counts", "Sum", "max", "ways ", "none"):
            self.assertEqual(both(HALL, (), PATH, kind), (KindError, KindError))
            self.assertEqual(both(HALL, WEIGHTS[::-1], PATH, kind), (KindError, KindError))
            self.assertEqual(both(HALL, ((("off", (1,)), 1),), PATH, kind), (KindError, KindError))

    def test_weights(self):
        wrong = (
            WEIGHTS[::-1], WEIGHTS[:1] * 2, ((("e", (1, 2)), 1), (("e", (1, 2)), 2)), ((("e", (1, 1)), 1),),
            ((("off", (1, 2)), 1),), ((("none", (1,)), 1),), ((("e", (1,)), 1),), ((("e", (1, 2, 3)), 1),),
            ((("e", (2, 3)), 0), (("e", (1, 3)), 0)), WEIGHTS + ((("on", (4,)), 0),), ((("on", (1, 2)), 1),),
            ((("", ()), 1),),
        )
        for weights in wrong:
            for kind in KINDS:
                self.assertEqual(both(HALL, weights, PATH, kind), (WeightError, WeightError), (weights, kind))

    def test_all_facts_may_have_weights(self):
        weights = tuple((fact, 2) for fact in facts_in(HALL))
        self.assertEqual(whole_total(HALL, weights, PATH, "sum"), 16)

    def test_which_comes_first(self):
        wrong = WEIGHTS[::-1]
        for kind in ("sum", "other"):
            for pattern in (PATH, BAD_PATTERN, LARGE_PATTERN):
                self.assertEqual(both(BAD_CATALOGUE, wrong, pattern, kind), (CatalogueError, CatalogueError))
                self.assertEqual(both(LARGE_CATALOGUE, wrong, pattern, kind), (TooLarge, TooLarge))
            self.assertEqual(both(HALL, wrong, BAD_PATTERN, kind), (PatternError, PatternError))
            self.assertEqual(both(HALL, wrong, LARGE_PATTERN, kind), (TooLarge, TooLarge))
            self.assertEqual(both((), wrong, PATH, kind), (UnknownTable, UnknownTable))
            self.assertEqual(both(HALL, wrong, read_pattern("<- e(x)"), kind), (PatternError, PatternError))
        hall = (table_with(201, "a"), table_with(100, "b"))
        pair = read_pattern("<- a(x), b(y)")
        self.assertEqual(both(hall, wrong, pair, "way"), (KindError, KindError))
        self.assertEqual(both(hall, wrong, pair, "ways"), (WeightError, WeightError))
        self.assertEqual(both(hall, (), pair, "ways"), (TooLarge, TooLarge))


if __name__ == "__main__":
    unittest.main()
