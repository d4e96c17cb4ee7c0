import itertools
import random
import unittest

from helper import BAD_PATTERN, LARGE_PATTERN, circle, drawn_parts, error_of, large_pattern, one_part, variables_in
from joinhall.errors import PatternError, TooLarge
from joinhall.parts import check_parts, order_of, width_of
from joinhall.patterns import variables_of
from joinhall.texts import read_pattern

PATH = read_pattern("<- e(x, y), e(y, z), e(z, w)")
RIGHT = ((("x", "y"), -1), (("y", "z"), 0), (("w", "z"), 1))


def is_right(pattern, parts):
    """Tell the same as check_parts, by the words of the document."""
    if not parts or parts[0][1] != -1:
        return False
    for number, (bag, above) in enumerate(parts):
        if number > 0 and above not in range(number):
            return False
        if not bag or list(bag) != sorted(set(bag)):
            return False
    if not {name for bag, above in parts for name in bag} <= set(variables_in(pattern)):
        return False
    if not all(any(set(names) <= set(bag) for bag, above in parts) for table, names in pattern[1]):
        return False
    for name in variables_in(pattern):
        having = [above for bag, above in parts if name in bag]
        if sum(above != -1 and name in parts[above][0] for above in having) != len(having) - 1:
            return False
    return True


class CheckParts(unittest.TestCase):
    """Point 701."""

    def test_right_ones(self):
        self.assertIs(check_parts(PATH, RIGHT), True)
        self.assertIs(check_parts(PATH, one_part(PATH)), True)
        self.assertIs(check_parts(PATH, ((("y", "z"), -1), (("x", "y"), 0), (("w", "z"), 0))), True)
        self.assertIs(check_parts(PATH, ((("w", "z"), -1), (("y", "z"), 0), (("x", "y", "z"), 1))), True)
        # Equal bags, and bags within those above them.
        self.assertIs(check_parts(PATH, RIGHT + ((("w", "z"), 2), (("z",), 1), (("z",), 4))), True)
        triangle = read_pattern("<- e(a, b), e(b, c), e(c, a)")
        self.assertIs(check_parts(triangle, ((("a", "b", "c"), -1),)), True)
        self.assertIs(check_parts(triangle, ((("a", "b"), -1), (("b", "c"), 0), (("a", "c"), 1))), False)

    def test_nothing_in_common(self):
        pattern = read_pattern("<- t(a), t(b)")
        self.assertIs(check_parts(pattern, ((("a",), -1), (("b",), 0))), True)
        self.assertIs(check_parts(pattern, ((("b",), -1), (("a",), 0))), True)
        self.assertIs(check_parts(pattern, ((("a",), -1), (("b",), -1))), False)

    def test_no_trees(self):
        self.assertIs(check_parts(PATH, ()), False)
        whole = ("w", "x", "y", "z")
        for bag in (whole[::-1], whole + ("z",), ("w", "w", "x", "y", "z"), ("x", "w", "y", "z")):
            self.assertIs(check_parts(PATH, ((bag, -1),)), False, bag)
        for above in (0, 1, -2, 7):
            self.assertIs(check_parts(PATH, ((whole, above),)), False, above)
        for above in (-1, 1, 2, -2, 99):
            self.assertIs(check_parts(PATH, ((whole, -1), (("x",), above))), False, above)
        self.assertIs(check_parts(PATH, ((whole, -1), ((), 0))), False)
        self.assertIs(check_parts(PATH, (((), -1), (whole, 0))), False)
        self.assertIs(check_parts(PATH, (((), -1),)), False)
        self.assertIs(check_parts(PATH, (RIGHT[0], (("y", "z"), 2), (("w", "z"), 0))), False)

    def test_variable_that_is_none(self):
        for name in ("a", "e", "Z", ""):
            self.assertIs(check_parts(PATH, ((tuple(sorted(("w", "x", "y", "z", name))), -1),)), False)
            self.assertIs(check_parts(PATH, RIGHT + (((name,), 0),)), False)

    def test_atom_without_a_bag(self):
        self.assertIs(check_parts(PATH, RIGHT[:2]), False)
        self.assertIs(check_parts(PATH, RIGHT[:2] + ((("w",), 0),)), False)
        three = read_pattern("<- t(x, y, z)")
        self.assertIs(check_parts(three, RIGHT[:2]), False)
        self.assertIs(check_parts(three, ((("x", "y", "z"), -1),)), True)

    def test_bags_that_do_not_hang_together(self):
        self.assertIs(check_parts(PATH, (RIGHT[0], (("w", "z"), 0), (("y", "z"), 1))), False)
        self.assertIs(check_parts(PATH, (RIGHT[0], RIGHT[1], (("w", "z"), 0))), False)
        self.assertIs(check_parts(PATH, RIGHT + ((("x",), 1),)), False)
        self.assertIs(check_parts(PATH, RIGHT + ((("x",), 0),)), True)

    def test_head_and_repeats_do_not_matter(self):
        pattern = read_pattern("y <- t(x, x, y), t(y, y, y)")
        self.assertIs(check_parts(pattern, ((("x", "y"), -1),)), True)
        self.assertIs(check_parts(pattern, ((("y",), -1), (("x", "y"), 0))), True)
        self.assertIs(check_parts(pattern, ((("y",), -1), (("x",), 0))), False)

    def test_errors(self):
        for parts in ((), RIGHT):
            self.assertIs(error_of(check_parts, BAD_PATTERN, parts), PatternError)
            self.assertIs(error_of(check_parts, LARGE_PATTERN, parts), TooLarge)

    def test_all_small_ones(self):
        pattern = read_pattern("<- e(x, y), e(y, z)")
        bags = [bag for size in range(3) for bag in itertools.permutations("xyz", size)] + [("x", "y", "z")]
        for count in (1, 2, 3):
            for chosen in itertools.product(bags, repeat=count):
                for rest in itertools.product((-1, 0, 1), repeat=count - 1):
                    parts = tuple(zip(chosen, (-1,) + rest))
                    self.assertIs(check_parts(pattern, parts), is_right(pattern, parts), parts)

    def test_drawn_ones(self):
        dice = random.Random(701)
        seen = {True: 0, False: 0}
        for _ in range(600):
            pattern = large_pattern(dice)
            parts = list(drawn_parts(dice, pattern))
            self.assertIs(check_parts(pattern, tuple(parts)), True)
            at = dice.randrange(len(parts))
            bag, above = parts[at]
            if dice.random() < 0.5:
                above = dice.randint(-1, len(parts))
            else:
                name = dice.choice(variables_in(pattern))
                bag = tuple(sorted(set(bag) ^ {name}))
            parts[at] = (bag, above)
            due = is_right(pattern, tuple(parts))
            seen[due] += 1
            self.assertIs(check_parts(pattern, tuple(parts)), due, (pattern, parts))
        self.assertGreater(min(seen.values()), 50)


class WidthAndOrder(unittest.TestCase):
    """Points 701 and 704."""

    def test_width(self):
        self.assertEqual(width_of(RIGHT), 2)
        self.assertEqual(width_of(one_part(circle(8))), 8)
        self.assertEqual(width_of(((("a",), -1), (("a", "b", "c"), 0), (("b",), 1))), 3)
        self.assertEqual(width_of(((("a",), -1),)), 1)

    def test_order(self):
        self.assertEqual(order_of(RIGHT), ("x", "y", "z", "w"))
        self.assertEqual(order_of(one_part(circle(5))), tuple("abcde"))
        self.assertEqual(order_of(((("y", "z"), -1), (("w", "z"), 0), (("x", "y"), 0))), ("y", "z", "w", "x"))
        self.assertEqual(order_of(((("c",), -1), (("c",), 0), (("a", "b", "c"), 1), (("b",), 2))), ("c", "a", "b"))
        # By number, not one branch behind the other.
        parts = ((("a", "d"), -1), (("a", "c"), 0), (("b", "d"), 0), (("c", "e"), 1))
        self.assertEqual(order_of(parts), ("a", "d", "c", "b", "e"))

    def test_right_parts_have_all_variables(self):
        dice = random.Random(704)
        for _ in range(100):
            pattern = large_pattern(dice)
            order = order_of(drawn_parts(dice, pattern))
            self.assertIs(type(order), tuple)
            self.assertEqual(sorted(order), sorted(variables_of(pattern)))


if __name__ == "__main__":
    unittest.main()
