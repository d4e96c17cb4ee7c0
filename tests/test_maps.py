import itertools
import random
import unittest

from helper import (
    BAD_PATTERN, LARGE_PATTERN, circle, error_of, facts_in, large_pattern, random_case, star, three_pattern,
    three_tables, variables_in, whole_graph,
)
from joinhall.catalogues import check_catalogue
from joinhall.errors import PatternError, TooLarge
from joinhall.maps import case_of, check_map, contained, find_map
from joinhall.meaning import plain_answers
from joinhall.patterns import check_fit, variables_of
from joinhall.texts import read_pattern


def maps_by_trying(P, R):
    """Return all maps from P to R, ascending, found by trying all images of the variables."""
    if len(P[0]) != len(R[0]):
        return []
    order = []
    for name, variables in P[1]:
        order.extend(one for one in variables if one not in order)
    found = []
    for images in itertools.product(variables_in(R), repeat=len(order)):
        given = dict(zip(order, images))
        if tuple(given[one] for one in P[0]) != R[0]:
            continue
        if all((name, tuple(given[one] for one in variables)) in R[1] for name, variables in P[1]):
            found.append(tuple(zip(order, images)))
    return sorted(found)


def full_size(dice):
    """Return a pattern of eight atoms with two variables each."""
    names = "abcdefgh"
    return ((), tuple(("e", (dice.choice(names), dice.choice(names))) for _ in range(8)))


class Maps(unittest.TestCase):
    """Point 1101."""

    def find(self, P, R):
        return find_map(read_pattern(P), read_pattern(R))

    def test_the_least_of_several(self):
        self.assertEqual(self.find("<- e(x, y)", "<- e(c, a), e(b, d), e(b, c)"), (("x", "b"), ("y", "c")))
        self.assertEqual(self.find("<- e(y, x)", "<- e(c, a), e(b, d), e(b, c)"), (("y", "b"), ("x", "c")))
        self.assertEqual(self.find("<- on(z), on(a)", "<- on(v), on(u)"), (("z", "u"), ("a", "u")))
        # Names are ordered as strings, not as they first occur.
        self.assertEqual(self.find("<- on(x)", "<- on(b10), on(b2), on(b9)"), (("x", "b10"),))
        self.assertEqual(self.find("<- e(x, y), e(y, z)", "<- e(c, b), e(b, c), e(a, c)"),
                         (("x", "a"), ("y", "c"), ("z", "b")))

    def test_none(self):
        self.assertIsNone(self.find("<- e(x, x)", "<- e(a, b), e(b, a)"))
        self.assertIsNone(self.find("<- e(x, y), on(x)", "<- e(a, b), on(b)"))
        self.assertIsNone(self.find("<- off(x)", "<- on(x)"))
        self.assertIsNone(self.find("<- e(x, y), e(y, z), e(z, x)", "<- e(a, b), e(b, a)"))
        self.assertIsNone(self.find("<- e(x, y)", "<- e(x)"))
        self.assertIsNone(self.find("<- e(x)", "<- e(x, y)"))
        self.assertIsNone(self.find("x <- e(x, y)", "b <- e(a, b)"))

    def test_heads_of_different_lengths(self):
        for P, R in (("x <- on(x)", "<- on(x)"), ("<- on(x)", "x <- on(x)"), ("x, y <- e(x, y)", "x <- e(x, y)"),
                     ("x <- e(x, y)", "x, y <- e(x, y)")):
            self.assertIsNone(self.find(P, R))
            pairs = tuple((one, one) for one in variables_of(read_pattern(P)))
            self.assertIs(check_map(read_pattern(P), read_pattern(R), pairs), False)

    def test_heads_in_another_order(self):
        self.assertEqual(self.find("x, y <- e(x, y)", "a, b <- e(a, b)"), (("x", "a"), ("y", "b")))
        self.assertIsNone(self.find("y, x <- e(x, y)", "a, b <- e(a, b)"))
        self.assertEqual(self.find("y, x <- e(x, y)", "a, b <- e(b, a)"), (("x", "b"), ("y", "a")))
        self.assertEqual(self.find("y <- e(x, y)", "b <- e(a, b), e(c, b), e(a, c)"), (("x", "a"), ("y", "b")))
        # The head says what z becomes, though a lesser one would do for the atoms.
        self.assertEqual(self.find("z <- e(x, y), on(z)", "b <- e(a, a), on(a), on(b)"),
                         (("x", "a"), ("y", "a"), ("z", "b")))

    def test_a_variable_several_times(self):
        self.assertEqual(self.find("<- three(x, y, x)", "<- three(a, b, c), three(c, a, c)"), (("x", "c"), ("y", "a")))
        self.assertIsNone(self.find("<- three(x, y, x)", "<- three(a, b, c), three(c, a, a)"))
        self.assertEqual(self.find("<- e(x, y)", "<- e(a, a)"), (("x", "a"), ("y", "a")))

    def test_to_itself(self):
        pattern = read_pattern("y <- e(x, y), e(y, z), on(z)")
        self.assertEqual(find_map(pattern, pattern), (("x", "x"), ("y", "y"), ("z", "z")))
        folded = read_pattern("<- e(b, c), e(a, c)")
        self.assertEqual(find_map(folded, folded), (("b", "a"), ("c", "c"), ("a", "a")))

    def test_drawn_ones(self):
        dice = random.Random(1101)
        found = {True: 0, False: 0}
        for _ in range(600):
            P, R = three_pattern(dice, 3, 1), three_pattern(dice, 8, 1)
            if dice.random() < 0.8:
                # Else the lengths of the heads are different as a rule.
                R = (tuple(dice.sample(variables_in(R), min(len(P[0]), len(variables_in(R))))), R[1])
            maps = maps_by_trying(P, R)
            due = maps[0] if maps else None
            found[due is None] += 1
            self.assertEqual(find_map(P, R), due, (P, R))
            for pairs in maps[:3]:
                self.assertIs(check_map(P, R, pairs), True)
            order = variables_of(P)
            for _ in range(5):
                pairs = tuple((one, dice.choice(variables_in(R))) for one in order)
                self.assertIs(check_map(P, R, pairs), pairs in maps, (P, R, pairs))
        self.assertGreater(min(found.values()), 100)

    def test_full_size(self):
        dice = random.Random(1102)
        for _ in range(40):
            P, R = full_size(dice), full_size(dice)
            told = find_map(P, R)
            if told is not None:
                self.assertIs(check_map(P, R, told), True)
            P, R = large_pattern(dice), large_pattern(dice)
            told = find_map(P, R)
            self.assertTrue(told is None or check_map(P, R, told))
        ring = circle(8)
        self.assertEqual(find_map(ring, ring), tuple((one, one) for one in "abcdefgh"))
        self.assertIsNone(find_map(circle(7), ring))
        self.assertEqual(find_map(ring, circle(4)), tuple(zip("abcdefgh", "abcdabcd")))
        self.assertIsNone(find_map(whole_graph(4), whole_graph(3)))
        eight = read_pattern("<- " + ", ".join(f"on({name})" for name in "abcdefgh"))
        self.assertEqual(find_map(eight, eight), tuple((one, "a") for one in "abcdefgh"))
        self.assertEqual(find_map(star(7), star(7))[0], ("a", "a"))

    def test_check_map(self):
        P, R = read_pattern("x <- e(x, y), e(y, z)"), read_pattern("a <- e(a, b), e(b, c), e(b, a)")
        good = (("x", "a"), ("y", "b"), ("z", "c"))
        self.assertIs(check_map(P, R, good), True)
        self.assertIs(check_map(P, R, (("x", "a"), ("y", "b"), ("z", "a"))), True)
        for wrong in (
            (), good[:2], good[1:], good + good[:1], good + good[2:], (good[0], good[0]) + good[1:],
            (good[1], good[0], good[2]), (good[0], good[2], good[1]), good[::-1],
            (("x", "a"), ("y", "b"), ("z", "b")), (("x", "b"), ("y", "a"), ("z", "b")),
            (("x", "a"), ("y", "c"), ("z", "c")), (("x", "a"), ("y", "b"), ("z", "d")),
            (("x", "a"), ("y", "b"), ("w", "c")), good + (("w", "c"),), (("x", "a"), ("y", "b"), ("z", "")),
            (("x", "a"), ("y", "b"), ("", "c")), (("a", "x"), ("b", "y"), ("c", "z")),
            (("x", "a"), ("y", "b"), ("z", "c"), ("z", "a")), (("x", "a"), ("y", "b"), ("Z", "c")),
            (("x", "c"), ("y", "b"), ("z", "a")),
        ):
            self.assertIs(check_map(P, R, wrong), False, wrong)
        # An image that no atom would need is no map either, but here the head decides.
        P, R = read_pattern("x, y <- on(x), on(y)"), read_pattern("a, b <- on(a), on(b)")
        self.assertIs(check_map(P, R, (("x", "a"), ("y", "b"))), True)
        self.assertIs(check_map(P, R, (("x", "b"), ("y", "a"))), False)
        self.assertIs(check_map(P, R, (("x", "a"), ("y", "a"))), False)

    def test_errors(self):
        fine = read_pattern("<- on(x)")
        for call in (find_map, lambda P, R: check_map(P, R, ())):
            self.assertIs(error_of(call, BAD_PATTERN, fine), PatternError)
            self.assertIs(error_of(call, fine, BAD_PATTERN), PatternError)
            self.assertIs(error_of(call, LARGE_PATTERN, fine), TooLarge)
            self.assertIs(error_of(call, fine, LARGE_PATTERN), TooLarge)
            self.assertIs(error_of(call, BAD_PATTERN, LARGE_PATTERN), PatternError)
            self.assertIs(error_of(call, LARGE_PATTERN, BAD_PATTERN), TooLarge)


class Cases(unittest.TestCase):
    """Point 1102."""

    def case(self, text):
        return case_of(read_pattern(text))

    def test_by_hand(self):
        self.assertEqual(self.case("<- on(x)"), (("on", 1, ((0,),)),))
        self.assertEqual(self.case("z <- e(x, z), on(z), e(y, x)"), (("e", 2, ((0, 1), (2, 0))), ("on", 1, ((1,),))))
        self.assertEqual(self.case("<- e(b, a), a(b)"), (("a", 1, ((0,),)), ("e", 2, ((0, 1),))))

    def test_rows_ascend(self):
        due = (("e", 2, ((0, 0), (0, 1), (1, 2), (2, 0))),)
        self.assertEqual(self.case("<- e(x, y), e(z, x), e(y, z), e(x, x)"), due)

    def test_equal_atoms(self):
        self.assertEqual(self.case("<- e(x, y), on(y), e(x, y)"), (("e", 2, ((0, 1),)), ("on", 1, ((1,),))))

    def test_a_variable_several_times(self):
        self.assertEqual(self.case("<- three(y, x, y), three(x, x, x)"), (("three", 3, ((0, 1, 0), (1, 1, 1))),))

    def test_the_head_is_an_answer(self):
        dice = random.Random(1103)
        for _ in range(200):
            pattern = random_case(dice)[1]
            case = case_of(pattern)
            self.assertIsNone(check_fit(case, pattern))
            order = variables_of(pattern)
            self.assertIn(tuple(order.index(one) for one in pattern[0]), plain_answers(case, pattern))
            due = {(name, tuple(order.index(one) for one in variables)) for name, variables in pattern[1]}
            self.assertEqual(facts_in(case), sorted(due))

    def test_errors(self):
        self.assertIs(error_of(case_of, BAD_PATTERN), PatternError)
        self.assertIs(error_of(case_of, LARGE_PATTERN), TooLarge)


class Contained(unittest.TestCase):
    """Point 1103."""

    def told(self, R, P):
        return contained(read_pattern(R), read_pattern(P))

    def test_map(self):
        self.assertEqual(self.told("x <- e(x, y), on(x)", "u <- e(u, v)"), ("map", (("u", "x"), ("v", "y"))))
        self.assertEqual(self.told("<- e(x, x)", "<- e(a, b), e(b, c)"), ("map", (("a", "x"), ("b", "x"), ("c", "x"))))
        self.assertEqual(self.told("<- e(x, y), e(y, z)", "<- e(a, b)"), ("map", (("a", "x"), ("b", "y"))))

    def test_case(self):
        self.assertEqual(self.told("u <- e(u, v)", "x <- e(x, y), on(x)"),
                         ("case", (("e", 2, ((0, 1),)), ("on", 1, ()))))
        self.assertEqual(self.told("<- e(a, b), e(b, c)", "<- e(x, x)"), ("case", (("e", 2, ((0, 1), (1, 2))),)))
        self.assertEqual(self.told("y, x <- e(x, y)", "x, y <- e(x, y)"), ("case", (("e", 2, ((0, 1),)),)))

    def test_empty_tables(self):
        told = self.told("<- m(x)", "<- z(x, y, x), a(x, y), m(x), z(y, y, y), b(x, x, x, x)")
        self.assertEqual(told, ("case", (("a", 2, ()), ("b", 4, ()), ("m", 1, ((0,),)), ("z", 3, ()))))

    def test_more_tables_than_a_catalogue_may_have(self):
        R = read_pattern("<- " + ", ".join(f"r{n}(x)" for n in range(8)))
        P = read_pattern("<- " + ", ".join(f"p{n}(x)" for n in range(8)))
        due = tuple((f"p{n}", 1, ()) for n in range(8)) + tuple((f"r{n}", 1, ((0,),)) for n in range(8))
        self.assertEqual(contained(R, P), ("case", due))

    def test_drawn_ones(self):
        dice = random.Random(1104)
        words = {"map": 0, "case": 0}
        for _ in range(1000):
            R, P = three_pattern(dice, 6, 1), three_pattern(dice, 3, 1)
            if len(R[0]) != len(P[0]):
                continue
            word, told = contained(R, P)
            words[word] += 1
            maps = maps_by_trying(P, R)
            if word == "map":
                self.assertEqual(told, maps[0])
                for _ in range(5):
                    catalogue = three_tables(dice)
                    self.assertLessEqual(set(plain_answers(catalogue, R)), set(plain_answers(catalogue, P)))
            else:
                self.assertEqual(maps, [])
                self.assertIsNone(check_catalogue(told))
                order = variables_of(R)
                answer = tuple(order.index(one) for one in R[0])
                self.assertIn(answer, plain_answers(told, R))
                self.assertNotIn(answer, plain_answers(told, P))
                self.assertEqual(facts_in(told), facts_in(case_of(R)))
                self.assertEqual([table[0] for table in told], sorted({name for name, names in R[1] + P[1]}))
        self.assertGreater(min(words.values()), 60)

    def test_errors(self):
        fine = read_pattern("<- on(x)")
        self.assertIs(error_of(contained, BAD_PATTERN, LARGE_PATTERN), PatternError)
        self.assertIs(error_of(contained, LARGE_PATTERN, BAD_PATTERN), TooLarge)
        self.assertIs(error_of(contained, fine, BAD_PATTERN), PatternError)
        self.assertIs(error_of(contained, fine, LARGE_PATTERN), TooLarge)
        for R, P in (("<- on(x)", "x <- on(x)"), ("x <- on(x)", "<- on(x)"), ("x, y <- e(x, y)", "y <- e(x, y)"),
                     ("<- e(x, y)", "<- e(x)"), ("<- e(x)", "<- on(x), e(x, y)"),
                     ("<- on(x), e(x, y)", "<- off(x), e(x, y, y)")):
            self.assertIs(error_of(contained, read_pattern(R), read_pattern(P)), PatternError, (R, P))
        # Errors of a pattern itself come before those of both.
        headed = (("x",), LARGE_PATTERN[1])
        self.assertIs(error_of(contained, fine, headed), TooLarge)
        self.assertIs(error_of(contained, headed, fine), TooLarge)


if __name__ == "__main__":
    unittest.main()
