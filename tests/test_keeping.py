import itertools
import random
import unittest

from helper import (
    BAD_CATALOGUE, BAD_PATTERN, LARGE_CATALOGUE, LARGE_PATTERN, circle, error_of, explained_by_trying, is_plain,
    random_case, star, table_with, tables_with,
)
from joinhall import keeping
from joinhall.catalogues import with_row, without_row
from joinhall.errors import CatalogueError, PatternError, RowError, StandingError, TooLarge, UnknownTable
from joinhall.joins import answers
from joinhall.keeping import Keeper
from joinhall.notation import write_catalogue
from joinhall.texts import read_pattern

HALL = (("e", 2, ((1, 2), (2, 3), (3, 3))), ("none", 1, ()), ("on", 1, ((2,), (3,))))
PATH = read_pattern("x, z <- e(x, y), e(y, z)")
ENDS = read_pattern("x <- e(x, y), on(y)")
PAIR = read_pattern("x <- a(x), b(y)")
EIGHT = read_pattern("<- " + ", ".join(f"t({name})" for name in "abcdefgh"))


def look(keeper):
    """Return all that a keeper tells, but the ways."""
    return keeper.catalogue, keeper.names, keeper.log, [keeper.answers(name) for name in keeper.names]


def answers_by_trying(catalogue, pattern):
    return tuple(sorted(explained_by_trying(catalogue, pattern)))


class Standing(unittest.TestCase):
    """Point 1201."""

    def setUp(self):
        self.keeper = Keeper(HALL)
        self.keeper.stand("path", PATH)

    def test_constant(self):
        self.assertEqual(keeping.STANDING_LIMIT, 8)

    def test_answers(self):
        self.assertEqual(self.keeper.answers("path"), ((1, 3), (2, 3), (3, 3)))
        self.assertIsNone(self.keeper.stand("ends", ENDS))
        self.assertEqual(self.keeper.answers("ends"), ((1,), (2,), (3,)))
        self.keeper.stand("none", read_pattern("<- none(x)"))
        self.assertEqual(self.keeper.answers("none"), ())
        self.keeper.stand("some", read_pattern("<- on(x)"))
        self.assertEqual(self.keeper.answers("some"), ((),))

    def test_ways(self):
        self.keeper.stand("starts", read_pattern("y <- e(x, y), on(z)"))
        for answer, due in (((2,), 2), ((3,), 4), ((1,), 0), ((), 0), ((3, 3), 0), ((-7,), 0)):
            self.assertEqual(self.keeper.ways("starts", answer), due)
        self.assertEqual(self.keeper.ways("path", (2, 3)), 1)
        self.assertEqual(self.keeper.ways("path", (3, 2)), 0)
        self.keeper.stand("all", read_pattern("<- on(x), on(y)"))
        self.assertEqual(self.keeper.ways("all", ()), 4)

    def test_names_that_are_none(self):
        for name in ("", "Path", "1x", "a b", "a_b", "x" * 21, "path ", "-", "\n", "x\n"):
            self.assertIs(error_of(self.keeper.stand, name, PATH), StandingError, name)
        self.assertIsNone(self.keeper.stand("x" * 20, PATH))
        self.assertEqual(self.keeper.names, ("path", "x" * 20))

    def test_names_in_use(self):
        before = look(self.keeper)
        self.assertIs(error_of(self.keeper.stand, "path", PATH), StandingError)
        self.assertIs(error_of(self.keeper.stand, "path", ENDS), StandingError)
        self.assertEqual(look(self.keeper), before)
        self.assertIsNone(self.keeper.fall("path"))
        self.assertEqual(self.keeper.names, ())
        self.keeper.stand("path", ENDS)
        self.assertEqual(self.keeper.answers("path"), ((1,), (2,), (3,)))

    def test_a_name_may_be_that_of_a_table(self):
        self.keeper.stand("e", ENDS)
        self.assertEqual(self.keeper.answers("e"), ((1,), (2,), (3,)))

    def test_nothing_stands(self):
        for name in ("other", "", "Path", "e", "path "):
            for call in (self.keeper.fall, self.keeper.answers, lambda one: self.keeper.ways(one, (1,))):
                self.assertIs(error_of(call, name), StandingError)
        self.keeper.fall("path")
        for call in (self.keeper.fall, self.keeper.answers, lambda one: self.keeper.ways(one, (1, 3))):
            self.assertIs(error_of(call, "path"), StandingError)

    def test_patterns_that_do_not_fit(self):
        before = look(self.keeper)
        for pattern, due in (
            (BAD_PATTERN, PatternError), (LARGE_PATTERN, TooLarge), (read_pattern("<- off(x)"), UnknownTable),
            (read_pattern("<- e(x)"), PatternError), (read_pattern("<- e(x, y), on(x, y)"), PatternError),
            (read_pattern("<- off(x), on(x, y)"), UnknownTable),
        ):
            self.assertIs(error_of(self.keeper.stand, "new", pattern), due)
            self.assertEqual(look(self.keeper), before)

    def test_eight_and_nine(self):
        for n in range(7):
            self.keeper.stand(f"p{n}", ENDS)
        before = look(self.keeper)
        self.assertIs(error_of(self.keeper.stand, "ninth", ENDS), TooLarge)
        self.assertEqual(look(self.keeper), before)
        self.assertEqual(len(self.keeper.names), 8)
        self.keeper.fall("p3")
        self.keeper.stand("ninth", ENDS)
        self.assertEqual(self.keeper.names, ("ninth", "p0", "p1", "p2", "p4", "p5", "p6", "path"))
        # Errors of the name and of the pattern come before the number of the patterns.
        for name, pattern, due in (("p0", LARGE_PATTERN, StandingError), ("P", BAD_PATTERN, StandingError),
                                   ("new", BAD_PATTERN, PatternError), ("new", read_pattern("<- off(x)"), UnknownTable),
                                   ("new", read_pattern("<- e(x)"), PatternError), ("new", ENDS, TooLarge)):
            self.assertIs(error_of(self.keeper.stand, name, pattern), due)

    def test_which_error_comes_first(self):
        for pattern in (BAD_PATTERN, LARGE_PATTERN, read_pattern("<- off(x)"), EIGHT):
            for name in ("path", "Bad", ""):
                self.assertIs(error_of(self.keeper.stand, name, pattern), StandingError)
        self.assertIs(error_of(Keeper((table_with(4),)).stand, "Eight", EIGHT), StandingError)
        self.assertIs(error_of(Keeper((table_with(4),)).stand, "eight", EIGHT), TooLarge)

    def test_too_large_as_answers(self):
        keeper = Keeper((table_with(200, "a"), table_with(100, "b")))
        self.assertIsNone(keeper.stand("pair", PAIR))
        larger = Keeper((table_with(201, "a"), table_with(100, "b")))
        self.assertIs(error_of(larger.stand, "pair", PAIR), TooLarge)
        self.assertEqual(look(larger)[1:], ((), write_catalogue(larger.catalogue) + "begin\n", []))
        # What is visited on the way counts, too.
        wide = Keeper((table_with(150, "a"), ("c", 2, tuple((n, n) for n in range(150)))))
        self.assertIs(error_of(wide.stand, "wide", read_pattern("<- a(x), a(y), c(x, z), c(z, y)")), TooLarge)
        self.assertIsNone(wide.stand("narrow", read_pattern("<- a(x), c(x, z), c(z, y), a(y)")))

    def test_catalogue(self):
        self.assertIs(error_of(Keeper, BAD_CATALOGUE), CatalogueError)
        self.assertIs(error_of(Keeper, LARGE_CATALOGUE), TooLarge)
        self.assertIs(error_of(Keeper, tables_with(9)), TooLarge)
        self.assertEqual(look(Keeper(())), ((), (), "begin\n", []))


class Deeds(unittest.TestCase):
    """Point 1202."""

    def setUp(self):
        self.keeper = Keeper(HALL)
        self.keeper.stand("path", PATH)
        self.keeper.stand("ends", ENDS)

    def test_add(self):
        self.assertEqual(self.keeper.add("e", (3, 1)),
                         (("path", ((2, 1), (3, 1), (3, 2)), ()),))
        self.assertEqual(self.keeper.answers("path"), ((1, 3), (2, 1), (2, 3), (3, 1), (3, 2), (3, 3)))
        self.assertEqual(self.keeper.add("on", (1,)), ())
        self.assertEqual(self.keeper.add("e", (0, 1)), (("ends", ((0,),), ()), ("path", ((0, 2),), ())))
        self.assertEqual(self.keeper.answers("ends"), ((0,), (1,), (2,), (3,)))

    def test_drop(self):
        self.assertEqual(self.keeper.drop("e", (3, 3)), (("ends", (), ((3,),)), ("path", (), ((2, 3), (3, 3)))))
        self.assertEqual(self.keeper.drop("on", (3,)), (("ends", (), ((2,),)),))
        self.assertEqual(self.keeper.answers("ends"), ((1,),))
        self.assertEqual(self.keeper.drop("e", (2, 3)), (("path", (), ((1, 3),)),))
        self.assertEqual(self.keeper.answers("path"), ())

    def test_the_catalogue_changes(self):
        self.keeper.add("none", (-5,))
        self.assertEqual(self.keeper.catalogue, with_row(HALL, "none", (-5,)))
        self.keeper.drop("e", (2, 3))
        self.assertEqual(self.keeper.catalogue, without_row(with_row(HALL, "none", (-5,)), "e", (2, 3)))
        self.keeper.drop("none", (-5,))
        self.keeper.add("e", (2, 3))
        self.assertEqual(self.keeper.catalogue, HALL)

    def test_an_answer_with_several_assignments(self):
        self.keeper.add("e", (1, 3))
        self.assertEqual(self.keeper.ways("path", (1, 3)), 2)
        self.assertEqual(self.keeper.ways("ends", (1,)), 2)
        # One of two ways goes: the answers are the same as before.
        self.assertEqual(self.keeper.drop("e", (1, 2)), ())
        self.assertEqual(self.keeper.ways("path", (1, 3)), 1)
        self.assertEqual(self.keeper.ways("ends", (1,)), 1)
        self.assertEqual(self.keeper.drop("e", (1, 3)), (("ends", (), ((1,),)), ("path", (), ((1, 3),))))
        self.assertEqual(self.keeper.ways("path", (1, 3)), 0)

    def test_a_table_several_times(self):
        keeper = Keeper((table_with(1),))
        keeper.stand("cube", read_pattern("<- t(x), t(y), t(z)"))
        keeper.stand("all", read_pattern("x, y, z <- t(x), t(y), t(z)"))
        self.assertEqual(keeper.ways("cube", ()), 1)
        changes = keeper.add("t", (7,))
        due = tuple(one for one in itertools.product((0, 7), repeat=3) if 7 in one)
        self.assertEqual(changes, (("all", due, ()),))
        self.assertEqual(keeper.ways("cube", ()), 8)
        keeper.add("t", (5,))
        self.assertEqual(keeper.ways("cube", ()), 27)
        keeper.drop("t", (0,))
        self.assertEqual(keeper.ways("cube", ()), 8)
        self.assertEqual(keeper.answers("all"), tuple(itertools.product((5, 7), repeat=3)))
        keeper.drop("t", (5,))
        self.assertEqual(keeper.drop("t", (7,)), (("all", (), ((7, 7, 7),)), ("cube", (), ((),))))

    def test_a_variable_several_times(self):
        self.keeper.stand("loops", read_pattern("x <- e(x, x)"))
        self.assertEqual(self.keeper.add("e", (5, 6)), ())
        self.assertEqual(self.keeper.add("e", (5, 5))[0], ("loops", ((5,),), ()))
        self.assertEqual(self.keeper.drop("e", (5, 6)), (("path", (), ((5, 6),)),))
        self.assertEqual(self.keeper.answers("loops"), ((3,), (5,)))

    def test_an_atom_twice(self):
        self.keeper.stand("twice", read_pattern("y <- e(x, y), e(x, y)"))
        self.assertEqual(self.keeper.ways("twice", (3,)), 2)
        self.keeper.add("e", (7, 3))
        self.assertEqual(self.keeper.ways("twice", (3,)), 3)
        self.keeper.drop("e", (7, 3))
        self.assertEqual(self.keeper.ways("twice", (3,)), 2)

    def test_names_ascend_and_what_fell_is_not_told(self):
        for name in ("z", "b", "m"):
            self.keeper.stand(name, ENDS)
        self.keeper.fall("m")
        ninth = ((9,),)
        self.assertEqual(self.keeper.add("e", (9, 2)),
                         (("b", ninth, ()), ("ends", ninth, ()), ("path", ((9, 3),), ()), ("z", ninth, ())))
        self.assertEqual(self.keeper.drop("e", (9, 2)),
                         (("b", (), ninth), ("ends", (), ninth), ("path", (), ((9, 3),)), ("z", (), ninth)))

    def test_errors_of_rows(self):
        before = look(self.keeper)
        for call, table, row, due in (
            (self.keeper.add, "off", (1,), UnknownTable), (self.keeper.add, "e", (1, 2), RowError),
            (self.keeper.add, "e", (1,), RowError), (self.keeper.add, "e", (1, 2, 3), RowError),
            (self.keeper.add, "on", (10 ** 9,), RowError), (self.keeper.add, "on", (-10 ** 9,), RowError),
            (self.keeper.add, "on", (), RowError), (self.keeper.drop, "off", (1,), UnknownTable),
            (self.keeper.drop, "e", (1, 3), RowError), (self.keeper.drop, "e", (1,), RowError),
            (self.keeper.drop, "none", (1,), RowError), (self.keeper.drop, "on", (), RowError),
        ):
            self.assertIs(error_of(call, table, row), due, (table, row))
            self.assertEqual(look(self.keeper), before)

    def test_more_than_300_rows(self):
        keeper = Keeper((table_with(299),))
        keeper.stand("all", read_pattern("x <- t(x)"))
        self.assertEqual(keeper.add("t", (299,)), (("all", ((299,),), ()),))
        before = look(keeper)
        self.assertIs(error_of(keeper.add, "t", (300,)), TooLarge)
        self.assertIs(error_of(keeper.add, "t", (299,)), RowError)
        self.assertEqual(look(keeper), before)

    def test_too_many_assignments(self):
        keeper = Keeper((table_with(199, "a"), table_with(100, "b"), ("c", 1, ())))
        keeper.stand("pair", PAIR)
        keeper.stand("first", read_pattern("x <- a(x)"))
        # Exactly 20000.
        self.assertEqual(keeper.add("a", (199,)), (("first", ((199,),), ()), ("pair", ((199,),), ())))
        self.assertEqual(keeper.ways("pair", (199,)), 100)
        before = look(keeper)
        for table, n in (("a", 200), ("b", 100)):
            self.assertIs(error_of(keeper.add, table, (n,)), TooLarge)
            self.assertEqual(look(keeper), before)
        self.assertEqual(keeper.ways("pair", (7,)), 100)
        # A row that brings none is put in.
        self.assertEqual(keeper.add("c", (1,)), ())
        self.assertEqual(keeper.drop("b", (0,)), ())
        self.assertEqual(keeper.add("a", (200,)), (("first", ((200,),), ()), ("pair", ((200,),), ())))
        self.assertEqual(keeper.ways("pair", (200,)), 99)

    def test_one_more_than_20000(self):
        # 177 times 113 is 20001.
        keeper = Keeper((table_with(176, "a"), table_with(113, "b")))
        keeper.stand("pair", PAIR)
        self.assertIs(error_of(keeper.add, "a", (176,)), TooLarge)
        self.assertEqual(keeper.catalogue[0], table_with(176, "a"))
        keeper.drop("b", (0,))
        self.assertEqual(keeper.add("a", (176,)), (("pair", ((176,),), ()),))
        self.assertIs(error_of(keeper.add, "b", (0,)), TooLarge)
        # Such as use the row for several atoms count once: 141 times 141 is 19881, 142 times 142 is 20164.
        square = Keeper((table_with(140),))
        square.stand("square", read_pattern("<- t(x), t(y)"))
        self.assertEqual(square.add("t", (140,)), ())
        self.assertEqual(square.ways("square", ()), 19881)
        self.assertIs(error_of(square.add, "t", (141,)), TooLarge)

    def test_all_at_once(self):
        pattern = read_pattern("x <- s(z), a(x), b(y)")
        for size in (200, 201):
            keeper = Keeper((table_with(size, "a"), table_with(100, "b"), ("s", 1, ())))
            keeper.stand("triple", pattern)
            before = look(keeper)
            if size == 200:
                self.assertEqual(keeper.add("s", (1,)), (("triple", tuple((n,) for n in range(200)), ()),))
                self.assertEqual(keeper.ways("triple", (7,)), 100)
                self.assertIs(error_of(keeper.add, "s", (2,)), TooLarge)
            else:
                self.assertIs(error_of(keeper.add, "s", (1,)), TooLarge)
                self.assertEqual(look(keeper), before)

    def test_far_too_many_assignments_end(self):
        hall = (("s", 1, ()), table_with(300))
        keeper = Keeper(hall)
        keeper.stand("vast", read_pattern("<- s(x), t(a), t(b), t(c), t(d), t(f), t(g), t(h)"))
        self.assertIs(error_of(keeper.add, "s", (1,)), TooLarge)
        self.assertEqual(keeper.catalogue, hall)
        keeper.fall("vast")
        self.assertEqual(keeper.add("s", (1,)), ())
        path = Keeper((("e", 2, tuple((n, n // 17) for n in range(289))), ("s", 1, ())))
        path.stand("star", ((), star(7)[1] + (("s", ("a",)),)))
        self.assertIs(error_of(path.add, "s", (3,)), TooLarge)

    def test_what_is_visited_does_not_count_for_rows(self):
        # There are never more than 300 fitting assignments, but far more partial answers.
        hall = (("a", 1, ()), ("c", 2, tuple((n, n) for n in range(300))))
        keeper = Keeper(hall)
        pattern = read_pattern("x <- a(x), a(y), c(x, z), c(z, y)")
        keeper.stand("wide", pattern)
        for n in range(160):
            self.assertEqual(keeper.add("a", (n,)), (("wide", ((n,),), ()),))
        self.assertIs(error_of(answers, keeper.catalogue, pattern), TooLarge)
        self.assertEqual(keeper.answers("wide"), tuple((n,) for n in range(160)))
        self.assertEqual(keeper.drop("a", (5,)), (("wide", (), ((5,),)),))
        self.assertIs(error_of(keeper.stand, "again", pattern), TooLarge)

    def test_one_pattern_with_an_error_changes_none(self):
        keeper = Keeper((table_with(200, "a"), table_with(100, "b")))
        keeper.stand("all", read_pattern("x <- a(x)"))
        keeper.stand("pair", PAIR)
        keeper.stand("same", read_pattern("x <- a(x)"))
        before = look(keeper)
        self.assertIs(error_of(keeper.add, "a", (777,)), TooLarge)
        self.assertEqual(look(keeper), before)
        self.assertEqual([keeper.ways(name, (777,)) for name in keeper.names], [0, 0, 0])

    def test_drawn_deeds(self):
        dice = random.Random(1202)
        for _ in range(40):
            catalogue, pattern = random_case(dice)
            keeper = Keeper(catalogue)
            patterns = {}
            for step in range(30):
                self.do_one(dice, keeper, patterns)
                for name, one in patterns.items():
                    uses = explained_by_trying(keeper.catalogue, one)
                    self.assertEqual(keeper.answers(name), tuple(sorted(uses)))
                    for answer in uses:
                        self.assertEqual(keeper.ways(name, answer), len(uses[answer]))
                self.assertEqual(keeper.names, tuple(sorted(patterns)))

    def do_one(self, dice, keeper, patterns):
        """Do a drawn deed, and look at what it returns."""
        catalogue = keeper.catalogue
        before = {name: answers_by_trying(catalogue, one) for name, one in patterns.items()}
        name, columns, rows = dice.choice(catalogue)
        word = dice.choice(("stand", "fall", "add", "add", "add", "drop", "drop"))
        if word == "stand" and len(patterns) < 4:
            patterns[f"p{len(patterns)}"] = self.drawn_pattern(dice, catalogue)
            self.assertIsNone(keeper.stand(*list(patterns.items())[-1]))
        elif word == "fall" and len(patterns) == 4:
            self.assertIsNone(keeper.fall("p3"))
            del patterns["p3"]
        elif word == "add":
            row = tuple(dice.randint(-1, 2) for _ in range(columns))
            if row in rows:
                self.assertIs(error_of(keeper.add, name, row), RowError)
            else:
                self.check_changes(keeper.add(name, row), before, keeper, patterns)
                self.assertEqual(keeper.catalogue, with_row(catalogue, name, row))
        elif word == "drop" and rows:
            row = dice.choice(rows)
            self.check_changes(keeper.drop(name, row), before, keeper, patterns)
            self.assertEqual(keeper.catalogue, without_row(catalogue, name, row))

    def drawn_pattern(self, dice, catalogue):
        atoms = []
        for _ in range(dice.randint(1, 4)):
            name, columns, rows = dice.choice(catalogue)
            atoms.append((name, tuple(dice.choice("stuv") for _ in range(columns))))
        variables = sorted({one for name, names in atoms for one in names})
        return (tuple(dice.sample(variables, dice.randint(0, len(variables)))), tuple(atoms))

    def check_changes(self, changes, before, keeper, patterns):
        due = []
        for name in sorted(patterns):
            old, new = set(before[name]), set(answers_by_trying(keeper.catalogue, patterns[name]))
            if old != new:
                due.append((name, tuple(sorted(new - old)), tuple(sorted(old - new))))
        self.assertEqual(changes, tuple(due))
        self.assertTrue(is_plain(changes))

    def test_full_size(self):
        dice = random.Random(1203)
        rows = tuple(sorted({(dice.randrange(25), dice.randrange(25)) for _ in range(45)}))
        hall = (("e", 2, rows),)
        keeper = Keeper(hall)
        keeper.stand("ring", (("a", "e"), circle(8)[1]))
        keeper.stand("walk", (("a", "f"), circle(8)[1][:5]))
        first = [keeper.answers(name) for name in keeper.names]
        for row in rows[:20]:
            keeper.drop("e", row)
        self.assertEqual(keeper.answers("walk"), answers(keeper.catalogue, (("a", "f"), circle(8)[1][:5])))
        for row in rows[:20]:
            keeper.add("e", row)
        self.assertEqual([keeper.answers(name) for name in keeper.names], first)


class Told(unittest.TestCase):
    """Point 1203."""

    def test_log(self):
        keeper = Keeper(HALL)
        text = "table e 2\nrow 1 2\nrow 2 3\nrow 3 3\ntable none 1\ntable on 1\nrow 2\nrow 3\nbegin\n"
        self.assertEqual(keeper.log, text)
        for call, arguments, line in (
            (keeper.stand, ("path", PATH), "stand path x, z <- e(x, y), e(y, z)\n"),
            (keeper.stand, ("some", read_pattern("<- on(x)")), "stand some <- on(x)\n"),
            (keeper.add, ("e", (-5, 999999999)), "add e -5 999999999\n"),
            (keeper.add, ("none", (0,)), "add none 0\n"),
            (keeper.drop, ("e", (1, 2)), "drop e 1 2\n"),
            (keeper.fall, ("path",), "fall path\n"),
            (keeper.stand, ("path", ENDS), "stand path x <- e(x, y), on(y)\n"),
        ):
            call(*arguments)
            text += line
            self.assertEqual(keeper.log, text)
        # Neither questions nor what was refused are deeds.
        keeper.answers("path")
        keeper.ways("path", (2,))
        for call, arguments in ((keeper.add, ("e", (2, 3))), (keeper.drop, ("e", (1, 2))), (keeper.fall, ("other",)),
                                (keeper.stand, ("path", PATH)), (keeper.add, ("off", (1,)))):
            self.assertIsNotNone(error_of(call, *arguments))
        self.assertEqual(keeper.log, text)

    def test_catalogue_and_names(self):
        keeper = Keeper(HALL)
        self.assertEqual((keeper.catalogue, keeper.names), (HALL, ()))
        for name in ("c", "a", "b10", "b9"):
            keeper.stand(name, ENDS)
        self.assertEqual(keeper.names, ("a", "b10", "b9", "c"))
        keeper.fall("b10")
        self.assertEqual(keeper.names, ("a", "b9", "c"))
        self.assertTrue(is_plain((keeper.catalogue, keeper.names, keeper.log)))

    def test_they_cannot_be_assigned(self):
        keeper = Keeper(HALL)
        for name in ("catalogue", "names", "log"):
            self.assertIs(error_of(setattr, keeper, name, ()), AttributeError)

    def test_keepers_are_apart(self):
        one, other = Keeper(HALL), Keeper(HALL)
        one.stand("path", PATH)
        one.add("e", (7, 7))
        self.assertEqual(look(other), (HALL, (), write_catalogue(HALL) + "begin\n", []))


if __name__ == "__main__":
    unittest.main()
