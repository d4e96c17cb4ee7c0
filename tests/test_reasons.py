import itertools
import random
import unittest

from helper import (
    BAD_CATALOGUE, BAD_PATTERN, LARGE_CATALOGUE, LARGE_PATTERN, error_of, explained_by_trying, facts_in, is_plain,
    random_case, table_with,
)
from joinhall.catalogues import without_row
from joinhall.errors import CatalogueError, NoAnswer, PatternError, TooLarge, UnknownTable
from joinhall.meaning import plain_answers
from joinhall.reasons import check_cut, least_cut, least_witness, needed, witnesses
from joinhall.texts import read_pattern

HALL = (("e", 2, ((1, 1), (1, 2), (1, 3), (2, 3), (3, 3))), ("none", 1, ()), ("on", 1, ((1,), (3,))))
PATH = read_pattern("x, z <- e(x, y), e(y, z)")
ONE, TWO, THREE, FOUR, FIVE = [("e", row) for row in HALL[0][2]]
TELLERS = (witnesses, least_witness, least_cut, needed)


def without(catalogue, facts):
    """Return a catalogue without the rows of some facts, taken out one by one."""
    for name, row in facts:
        catalogue = without_row(catalogue, name, row)
    return catalogue


def errors(*arguments):
    """Return the errors of all functions, those of check_cut with the empty tuple of facts."""
    return [error_of(teller, *arguments) for teller in TELLERS] + [error_of(check_cut, *arguments, ())]


def witnesses_by_trying(catalogue, pattern, answer):
    uses = explained_by_trying(catalogue, pattern)[answer]
    return tuple(sorted({tuple(sorted(set(facts))) for facts in uses}))


def cuts_by_trying(catalogue, pattern, answer):
    """Yield the cuts, the shorter ones first, those of one length as tuples ascend."""
    facts = sorted({fact for one in witnesses_by_trying(catalogue, pattern, answer) for fact in one})
    for many in range(len(facts) + 1):
        for some in itertools.combinations(facts, many):
            if answer not in plain_answers(without(catalogue, some), pattern):
                yield some


class Witnesses(unittest.TestCase):
    """Point 1001."""

    def test_several(self):
        due = ((ONE, THREE), (TWO, FOUR), (THREE, FIVE))
        self.assertEqual(witnesses(HALL, PATH, (1, 3)), due)
        self.assertEqual(witnesses(HALL, PATH, (1, 2)), ((ONE, TWO),))
        self.assertEqual(witnesses(HALL, PATH, (2, 3)), ((FOUR, FIVE),))

    def test_one_row_for_two_atoms(self):
        self.assertEqual(witnesses(HALL, PATH, (3, 3)), ((FIVE,),))
        self.assertEqual(witnesses(HALL, PATH, (1, 1)), ((ONE,),))
        due = ((ONE,), (ONE, THREE, FIVE))
        pattern = read_pattern("x <- e(x, x), e(x, y), e(y, y)")
        self.assertEqual(witnesses(HALL, pattern, (1,)), due)

    def test_facts_ascend_whatever_the_order_of_the_atoms(self):
        pattern = read_pattern("<- on(y), e(y, z), e(x, y), on(x)")
        for one in witnesses(HALL, pattern, ()):
            self.assertEqual(one, tuple(sorted(set(one))))
        self.assertIn((ONE, THREE, ("on", (1,))), witnesses(HALL, pattern, ()))

    def test_assignments_with_the_same_witness(self):
        pair = read_pattern("<- on(x), on(y)")
        one, three = ("on", (1,)), ("on", (3,))
        self.assertEqual(witnesses(HALL, pair, ()), ((one,), (one, three), (three,)))

    def test_a_witness_within_another_one_stands(self):
        pattern = read_pattern("x <- e(x, y), e(x, z)")
        self.assertEqual(witnesses(HALL, pattern, (1,)),
                         ((ONE,), (ONE, TWO), (ONE, THREE), (TWO,), (TWO, THREE), (THREE,)))

    def test_least_witness(self):
        self.assertEqual(least_witness(HALL, PATH, (1, 3)), (ONE, THREE))
        self.assertEqual(least_witness(HALL, PATH, (3, 3)), (FIVE,))
        # The first one of all is not the shortest one.
        pattern = read_pattern("<- e(x, y), e(y, z), on(z)")
        self.assertEqual(witnesses(HALL, pattern, ())[0], (ONE, THREE, ("on", (3,))))
        self.assertEqual(least_witness(HALL, pattern, ()), (ONE, ("on", (1,))))
        hall = (("e", 2, ((1, 2), (2, 3), (4, 4))),)
        self.assertEqual(least_witness(hall, read_pattern("<- e(x, y), e(y, z)"), ()), (("e", (4, 4)),))
        pattern = read_pattern("x <- e(x, y), e(x, z)")
        self.assertEqual(least_witness(HALL, pattern, (1,)), (ONE,))

    def test_drawn_ones(self):
        dice = random.Random(1001)
        for _ in range(300):
            catalogue, pattern = random_case(dice)
            for answer in plain_answers(catalogue, pattern)[:5]:
                due = witnesses_by_trying(catalogue, pattern, answer)
                told = witnesses(catalogue, pattern, answer)
                self.assertEqual(told, due, (catalogue, pattern, answer))
                self.assertTrue(is_plain(told))
                fewest = min(len(one) for one in due)
                shortest = [one for one in due if len(one) == fewest]
                self.assertEqual(least_witness(catalogue, pattern, answer), shortest[0])
                common = set(due[0]).intersection(*due)
                self.assertEqual(needed(catalogue, pattern, answer), tuple(sorted(common)))

    def test_a_witness_is_enough_for_the_answer(self):
        dice = random.Random(1002)
        for _ in range(60):
            catalogue, pattern = random_case(dice)
            for answer in plain_answers(catalogue, pattern)[:3]:
                for one in witnesses(catalogue, pattern, answer)[:5]:
                    rest = [fact for fact in facts_in(catalogue) if fact not in one]
                    self.assertIn(answer, plain_answers(without(catalogue, rest), pattern))


class Cuts(unittest.TestCase):
    """Point 1002."""

    def test_of_one_fact(self):
        self.assertEqual(least_cut(HALL, PATH, (3, 3)), (FIVE,))
        # Of several the least one.
        self.assertEqual(least_cut(HALL, PATH, (2, 3)), (FOUR,))
        self.assertEqual(least_cut(HALL, PATH, (1, 2)), (ONE,))

    def test_of_several_facts(self):
        self.assertEqual(least_cut(HALL, PATH, (1, 3)), (TWO, THREE))
        pattern = read_pattern("x <- e(x, y), e(x, z)")
        self.assertEqual(least_cut(HALL, pattern, (1,)), (ONE, TWO, THREE))
        apart = (("e", 2, ((1, 2), (3, 4), (5, 6))), ("on", 1, ((2,), (4,), (6,))))
        pattern = read_pattern("<- e(x, y), on(y)")
        self.assertEqual(least_cut(apart, pattern, ()), (("e", (1, 2)), ("e", (3, 4)), ("e", (5, 6))))

    def test_fewer_facts_go_before_lesser_ones(self):
        hall = (("a", 2, ((1, 0), (2, 0), (3, 0))), ("b", 1, ((0,),)))
        self.assertEqual(least_cut(hall, read_pattern("<- a(x, y), b(y)"), ()), (("b", (0,)),))

    def test_drawn_ones(self):
        dice = random.Random(1003)
        seen = 0
        for _ in range(250):
            catalogue, pattern = random_case(dice)
            for answer in plain_answers(catalogue, pattern)[:3]:
                found = witnesses_by_trying(catalogue, pattern, answer)
                if len({fact for one in found for fact in one}) > 8:
                    continue
                seen += 1
                cut = least_cut(catalogue, pattern, answer)
                self.assertEqual(cut, next(cuts_by_trying(catalogue, pattern, answer)), (catalogue, pattern, answer))
                self.assertTrue(is_plain(cut))
                self.assertTrue(check_cut(catalogue, pattern, answer, cut))
                for fact in cut:
                    fewer = tuple(other for other in cut if other != fact)
                    self.assertFalse(check_cut(catalogue, pattern, answer, fewer))
        self.assertGreater(seen, 100)

    def test_check_cut_for_all_sets(self):
        for answer in plain_answers(HALL, PATH):
            for many in range(6):
                for some in itertools.combinations(facts_in(HALL), many):
                    due = answer not in plain_answers(without(HALL, some), PATH)
                    self.assertIs(check_cut(HALL, PATH, answer, some), due, (answer, some))

    def test_check_cut(self):
        self.assertIs(check_cut(HALL, PATH, (1, 3), (TWO, THREE)), True)
        self.assertIs(check_cut(HALL, PATH, (1, 3), (THREE, FOUR)), True)
        self.assertIs(check_cut(HALL, PATH, (1, 3), (THREE,)), False)
        self.assertIs(check_cut(HALL, PATH, (1, 3), ()), False)
        # More facts than need be, also such as no witness has.
        self.assertIs(check_cut(HALL, PATH, (1, 3), (ONE, TWO, THREE, FIVE)), True)
        self.assertIs(check_cut(HALL, PATH, (1, 3), (TWO, THREE, ("on", (1,)))), True)
        self.assertIs(check_cut(HALL, PATH, (1, 3), tuple(facts_in(HALL))), True)
        for wrong in (
            (THREE, TWO), (TWO, TWO, THREE), (TWO, THREE, THREE), (FIVE, FIVE), (("e", (0, 0)), TWO, THREE),
            (TWO, THREE, ("none", (1,))), (TWO, THREE, ("off", (1,))), (TWO, THREE, ("on", (2,))),
            (TWO, THREE, ("on", (1, 3))), (("", ()), TWO, THREE), (("e", (1,)), TWO, THREE),
        ):
            self.assertIs(check_cut(HALL, PATH, (1, 3), wrong), False, wrong)

    def test_limit_of_facts(self):
        any_one = read_pattern("<- t(x)")
        sixteen, seventeen = (table_with(16),), (table_with(17),)
        self.assertEqual(least_cut(sixteen, any_one, ()), tuple(facts_in(sixteen)))
        self.assertIs(error_of(least_cut, seventeen, any_one, ()), TooLarge)
        self.assertEqual(len(witnesses(seventeen, any_one, ())), 17)
        self.assertEqual(least_witness(seventeen, any_one, ()), (("t", (0,)),))
        self.assertEqual(needed(seventeen, any_one, ()), ())
        self.assertIs(check_cut(seventeen, any_one, (), tuple(facts_in(seventeen))), True)
        self.assertIs(check_cut(seventeen, any_one, (), tuple(facts_in(seventeen))[1:]), False)
        # Only the facts of the witnesses count.
        larger = (("s", 1, ((0,),)), table_with(300))
        self.assertEqual(least_cut(larger, read_pattern("x <- t(x), s(x)"), (0,)), (("s", (0,)),))

    def test_many_witnesses_of_sixteen_facts(self):
        hall = (table_with(5, "a"), table_with(11, "b"))
        pattern = read_pattern("<- a(x), a(y), a(z), b(u), b(v)")
        self.assertEqual(least_cut(hall, pattern, ()), tuple(facts_in(hall))[:5])
        # A path of sixteen rows, of which each two neighbours are a witness.
        pairs = (("a", 2, tuple((n, n + 1) for n in range(16))),)
        pattern = read_pattern("<- a(x, y), a(y, z)")
        due = tuple(("a", (n, n + 1)) for n in range(0, 16, 2))
        self.assertEqual(least_cut(pairs, pattern, ()), due)


class Needed(unittest.TestCase):
    """Point 1003."""

    def test_none(self):
        self.assertEqual(needed(HALL, PATH, (1, 3)), ())
        self.assertEqual(needed(HALL, read_pattern("<- on(x), on(y)"), ()), ())

    def test_one(self):
        pattern = read_pattern("x <- e(x, y), e(x, z), on(x)")
        self.assertEqual(needed(HALL, pattern, (1,)), (("on", (1,)),))
        self.assertEqual(needed(HALL, PATH, (3, 3)), (FIVE,))

    def test_several(self):
        self.assertEqual(needed(HALL, PATH, (2, 3)), (FOUR, FIVE))
        pattern = read_pattern("x, z <- on(x), on(z), e(x, y), e(y, z)")
        self.assertEqual(needed(HALL, pattern, (1, 3)), (("on", (1,)), ("on", (3,))))

    def test_each_one_alone_is_a_cut(self):
        dice = random.Random(1004)
        for _ in range(100):
            catalogue, pattern = random_case(dice)
            for answer in plain_answers(catalogue, pattern)[:3]:
                found = needed(catalogue, pattern, answer)
                for fact in facts_in(catalogue):
                    self.assertIs(check_cut(catalogue, pattern, answer, (fact,)), fact in found)


class Errors(unittest.TestCase):
    """Points 1001 to 1003."""

    def test_no_answer(self):
        for answer in ((), (1,), (3, 1), (1, 3, 3), (0, 0), (1, 4), (2, 2), (3, 2)):
            self.assertEqual(errors(HALL, PATH, answer), [NoAnswer] * 5, answer)
        self.assertEqual(errors(HALL, read_pattern("<- none(x)"), ()), [NoAnswer] * 5)
        self.assertEqual(errors(HALL, read_pattern("<- on(x)"), (1,)), [NoAnswer] * 5)
        self.assertIs(error_of(check_cut, HALL, PATH, (3, 1), (FIVE, FIVE)), NoAnswer)

    def test_which_comes_first(self):
        for pattern in (PATH, BAD_PATTERN, LARGE_PATTERN):
            self.assertEqual(errors(BAD_CATALOGUE, pattern, (9,)), [CatalogueError] * 5)
            self.assertEqual(errors(LARGE_CATALOGUE, pattern, (9,)), [TooLarge] * 5)
        for pattern in (BAD_PATTERN, (), ((), (), ()), (("x",), (("e", ("y", "z")),))):
            self.assertEqual(errors(HALL, pattern, (9,)), [PatternError] * 5)
        self.assertEqual(errors(HALL, LARGE_PATTERN, (9,)), [TooLarge] * 5)
        self.assertEqual(errors((), PATH, (9,)), [UnknownTable] * 5)
        self.assertEqual(errors(HALL, read_pattern("<- e(x)"), (9,)), [PatternError] * 5)

    def test_too_large_as_answers(self):
        pair = read_pattern("x <- a(x), b(y)")
        cases = ((200, (9,), None), (200, (999,), NoAnswer), (201, (9,), TooLarge), (201, (999,), TooLarge))
        for size, answer, due in cases:
            hall = (table_with(size, "a"), table_with(100, "b"))
            for teller in (witnesses, least_witness, needed):
                self.assertIs(error_of(teller, hall, pair, answer), due)
            self.assertIs(error_of(check_cut, hall, pair, answer, ()), due)
            # For 200 rows the answer has too many facts for a least cut.
            self.assertIs(error_of(least_cut, hall, pair, answer), due or TooLarge)

    def test_no_answer_comes_before_too_many_facts(self):
        self.assertIs(error_of(least_cut, (table_with(17),), read_pattern("x <- t(x), t(y)"), (99,)), NoAnswer)
        self.assertIs(error_of(least_cut, (table_with(17),), read_pattern("x <- t(x), t(y)"), (1,)), TooLarge)


if __name__ == "__main__":
    unittest.main()
