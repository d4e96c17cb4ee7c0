import itertools
import random
import unittest

from helper import (
    BAD_PATTERN, LARGE_PATTERN, bags_when_taken_out, circle, error_of, is_plain, large_pattern, star,
    variables_in, whole_graph,
)
from joinhall.errors import PatternError, TooLarge
from joinhall.parts import check_parts, width_of
from joinhall.texts import read_pattern
from joinhall.widths import atom_tree, least_parts, least_width
from test_parts import is_right


def bags_of_atoms(pattern):
    return {tuple(sorted(set(names))) for table, names in pattern[1]}


def is_acyclic(pattern):
    """Tell it by taking away, as long as there are such, variables that are in one set only
    and sets within other ones."""
    rest = [set(bag) for bag in sorted(bags_of_atoms(pattern))]
    size = None
    while size != sum(len(bag) + 1 for bag in rest):
        size = sum(len(bag) + 1 for bag in rest)
        rest = [{name for name in bag if sum(name in other for other in rest) > 1} for bag in rest]
        rest = [bag for at, bag in enumerate(rest)
                if not any(bag < other or (bag == other and at < place) for place, other in enumerate(rest))]
    return rest == [set()]


def has_tree(pattern):
    """Tell whether some tree of all the bags of atoms is right, by trying all."""
    bags = sorted(bags_of_atoms(pattern))
    for order in itertools.permutations(bags):
        for aboves in itertools.product(*(range(n) for n in range(1, len(bags)))):
            if is_right(pattern, tuple(zip(order, (-1,) + aboves))):
                return True
    return False


def width_by_trying(pattern):
    """Return the least width over all orders of taking out variables."""
    orders = itertools.permutations(variables_in(pattern))
    return min(max(map(len, bags_when_taken_out(pattern, order))) for order in orders)


class AtomTrees(unittest.TestCase):
    """Point 702."""

    def check(self, pattern, due):
        tree = atom_tree(pattern)
        if not due:
            self.assertIsNone(tree, pattern)
            return
        self.assertIsNotNone(tree, pattern)
        self.assertTrue(is_plain(tree))
        self.assertTrue(is_right(pattern, tree), (pattern, tree))
        self.assertIs(check_parts(pattern, tree), True)
        self.assertLessEqual({bag for bag, above in tree}, bags_of_atoms(pattern))

    def ask(self, text, due):
        self.check(read_pattern(text), due)

    def test_trees(self):
        self.ask("<- t(x)", True)
        self.ask("<- e(x, y), e(y, z), e(z, w)", True)
        self.ask("<- e(y, z), e(w, x), e(z, w), e(x, v)", True)
        self.ask("<- t(a, b, c), t(b, c, d), t(c, d, f), e(f, g), t(a, b, h)", True)
        for leaves in range(1, 8):
            self.check(star(leaves), True)

    def test_circles(self):
        for size in range(3, 9):
            self.check(circle(size), False)
        self.check(whole_graph(4), False)
        self.ask("<- e(x, y), e(y, x)", True)

    def test_circles_with_a_lid(self):
        self.ask("<- e(a, b), e(b, c), e(c, a), t(a, b, c)", True)
        self.ask("<- t(c, b, a), e(a, b), e(b, c), e(c, a)", True)
        self.ask("<- e(a, b), e(b, c), e(c, d), e(d, a), f(d, a, c, b)", True)
        self.ask("<- e(a, b), e(b, c), e(c, d), e(d, a), t(a, b, c)", False)
        self.ask("<- e(a, b), e(b, c), e(c, d), e(d, a), t(a, b, c), t(a, c, d)", True)

    def test_no_variable_in_common(self):
        self.ask("<- t(a), t(b), t(c)", True)
        self.ask("<- e(a, b), e(c, d), e(d, f)", True)
        self.ask("<- e(a, b), e(c, d), e(d, f), e(f, c)", False)
        self.ask("<- t(g), e(c, d), e(d, f), e(f, c)", False)

    def test_equal_atoms_and_atoms_within_others(self):
        self.ask("<- e(a, b), e(a, b), e(b, a)", True)
        self.ask("<- t(a), e(a, b), t(b), f(a, b, a, b)", True)
        self.ask("<- e(a, a), e(a, b), e(b, b)", True)
        self.ask("<- f(a, b, c, d), e(a, d), e(b, c), s(a), t(a, b, d)", True)

    def test_drawn_patterns(self):
        dice = random.Random(702)
        seen = {True: 0, False: 0}
        for _ in range(400):
            pattern = large_pattern(dice)
            due = is_acyclic(pattern)
            seen[due] += 1
            self.check(pattern, due)
        self.assertGreater(min(seen.values()), 50)

    def test_by_trying_all_trees(self):
        dice = random.Random(703)
        for _ in range(100):
            names = "abcd"
            atoms = tuple(("e", (dice.choice(names), dice.choice(names))) for _ in range(dice.randint(1, 4)))
            self.check(((), atoms), has_tree(((), atoms)))

    def test_errors(self):
        self.assertIs(error_of(atom_tree, BAD_PATTERN), PatternError)
        self.assertIs(error_of(atom_tree, LARGE_PATTERN), TooLarge)


class LeastParts(unittest.TestCase):
    """Point 703."""

    def check(self, pattern, due):
        parts = least_parts(pattern)
        self.assertTrue(is_plain(parts))
        self.assertTrue(is_right(pattern, parts), (pattern, parts))
        self.assertEqual((width_of(parts), least_width(pattern)), (due, due), (pattern, parts))

    def ask(self, text, due):
        self.check(read_pattern(text), due)

    def test_known_widths(self):
        for size in range(3, 9):
            self.check(circle(size), 3)
        for size in range(2, 5):
            self.check(whole_graph(size), size)
        for leaves in range(1, 8):
            self.check(star(leaves), 2)
        self.ask("<- t(x)", 1)
        self.ask("<- t(a), t(b), t(c)", 1)
        self.ask("<- e(a, a)", 1)
        self.ask("<- f(a, b, c, d)", 4)
        self.ask("<- e(a, b), e(c, d), e(d, f), e(f, c)", 3)
        self.ask("<- " + ", ".join(f"t({name})" for name in "abcdefgh"), 1)

    def test_full_size(self):
        # Each two variables stand in some atom, or nearly so.
        names = "abcdefgh"
        fano = tuple(("t", tuple(names[(at + step) % 7] for step in (0, 1, 3))) for at in range(7))
        self.check(((), fano), 7)
        pairs = ("abcd", "efgh", "abef", "cdgh", "abgh", "cdef")
        self.check(((), tuple(("f", tuple(four)) for four in pairs)), 8)
        ring = tuple(("f", tuple(names[(at + step) % 8] for step in range(4))) for at in range(8))
        self.check(((), ring), 7)
        narrow = tuple(("t", tuple(names[(at + step) % 8] for step in range(3))) for at in range(8))
        self.check(((), narrow), 5)

    def test_against_all_orders(self):
        dice = random.Random(704)
        done = 0
        while done < 150:
            pattern = large_pattern(dice)
            if len(variables_in(pattern)) <= 6:
                self.check(pattern, width_by_trying(pattern))
                done += 1

    def test_against_all_orders_of_eight(self):
        names = "abcdefgh"
        for step in (2, 3):
            atoms = tuple(("t", (names[at], names[(at + 1) % 8], names[(at + step) % 8])) for at in range(8))
            self.check(((), atoms), width_by_trying(((), atoms)))

    def test_errors(self):
        for call in (least_parts, least_width):
            self.assertIs(error_of(call, BAD_PATTERN), PatternError)
            self.assertIs(error_of(call, LARGE_PATTERN), TooLarge)


if __name__ == "__main__":
    unittest.main()
