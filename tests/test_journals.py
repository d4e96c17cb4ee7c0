import random
import unittest

from helper import error_of, table_with
from joinhall.errors import CatalogueError, JournalError, TextError, TooLarge
from joinhall.journals import replay, replay_whole_lines
from joinhall.keeping import Keeper
from joinhall.notation import write_catalogue
from joinhall.texts import read_pattern

HALL = (("begin", 1, ((1,),)), ("e", 2, ((1, 2), (2, 3), (3, 3))), ("on", 1, ((-2,), (3,))))
START = write_catalogue(HALL) + "begin\n"
PATH = read_pattern("x, z <- e(x, y), e(y, z)")
ENDS = read_pattern("x <- e(x, y), on(y)")


def look(keeper):
    """Return all that a keeper tells, with the ways of all its answers."""
    told = [(name, keeper.answers(name), [keeper.ways(name, one) for one in keeper.answers(name)])
            for name in keeper.names]
    return keeper.catalogue, keeper.names, keeper.log, told


def busy_keeper():
    """Return a keeper with a long log."""
    keeper = Keeper(HALL)
    keeper.stand("path", PATH)
    keeper.stand("some", read_pattern("<- on(x)"))
    keeper.add("e", (3, 1))
    keeper.add("e", (-999999999, 1))
    keeper.drop("on", (-2,))
    keeper.fall("some")
    keeper.stand("some", ENDS)
    keeper.drop("e", (2, 3))
    keeper.add("begin", (0,))
    keeper.fall("path")
    return keeper


def do_drawn(dice, keepers):
    """Do the same drawn deed with several keepers, and return what each of them tells."""
    word = dice.choice(("stand", "fall", "add", "add", "drop"))
    name = dice.choice(("a", "b", "c", "d", "B"))
    pattern = dice.choice((PATH, ENDS, read_pattern("<- on(x), on(y)"), read_pattern("<- off(x)")))
    row = (dice.randint(1, 3), dice.randint(1, 3))
    arguments = {"stand": (name, pattern), "fall": (name,), "add": ("e", row), "drop": ("e", row)}[word]
    told = []
    for keeper in keepers:
        try:
            told.append(getattr(keeper, word)(*arguments))
        except ValueError as error:
            told.append(type(error))
    return told


class Replay(unittest.TestCase):
    """Point 1204."""

    def check_same(self, one, other):
        self.assertEqual(look(one), look(other))
        self.assertIsNot(one, other)

    def test_no_deeds(self):
        self.check_same(replay("begin\n"), Keeper(()))
        self.check_same(replay(START), Keeper(HALL))
        self.assertEqual(replay(START).log, START)

    def test_a_long_log(self):
        keeper = busy_keeper()
        self.assertEqual(keeper.log.count("\n"), 9 + 1 + 10)
        self.check_same(replay(keeper.log), keeper)
        self.check_same(replay(replay(keeper.log).log), keeper)
        self.assertIsInstance(replay(keeper.log), Keeper)

    def test_it_goes_on_alike(self):
        dice = random.Random(1204)
        for _ in range(20):
            keeper = Keeper(HALL)
            for step in range(25):
                do_drawn(dice, [keeper])
            other = replay(keeper.log)
            self.check_same(other, keeper)
            for step in range(25):
                one, two = do_drawn(dice, [keeper, other])
                self.assertEqual(one, two)
            self.check_same(other, keeper)
            self.check_same(replay(keeper.log), other)

    def test_by_hand(self):
        keeper = replay(START + "stand q y <- on(y), e(x, y)\nadd on 2\ndrop e 3 3\nadd e -7 3\n")
        self.assertEqual(keeper.names, ("q",))
        self.assertEqual(keeper.answers("q"), ((2,), (3,)))
        self.assertEqual(keeper.ways("q", (3,)), 2)
        self.assertEqual(keeper.add("e", (0, -2)), (("q", ((-2,),), ()),))

    def test_each_cut(self):
        log = busy_keeper().log
        lines = log.split("\n")[:-1]
        for end in range(len(log) + 1):
            cut = log[:end]
            whole = cut[:cut.rfind("\n") + 1]
            if len(whole) < len(START):
                self.assertIs(error_of(replay_whole_lines, cut), JournalError, cut)
                self.assertIs(error_of(replay, cut), JournalError, cut)
                continue
            self.assertEqual(replay_whole_lines(cut).log, whole)
            if cut == whole:
                self.assertEqual(look(replay(cut)), look(replay_whole_lines(cut)))
            else:
                self.assertIs(error_of(replay, cut), JournalError)
        self.assertEqual(look(replay_whole_lines(log)), look(busy_keeper()))
        self.assertEqual(lines[-1], "fall path")

    def test_no_line_feed_at_the_end(self):
        for text in ("", "begin", START[:-1], START + "fall x", "table t 1\nbegin", " ", START + " "):
            self.assertIs(error_of(replay, text), JournalError, text)
        self.assertIs(error_of(replay_whole_lines, ""), JournalError)
        self.assertIs(error_of(replay_whole_lines, "begin"), JournalError)

    def test_no_line_begin(self):
        for text in ("\n", write_catalogue(HALL), "beginn\n", "Begin\n", " begin\n", "begin \n", "begin begin\n",
                     "begin\r\n", "table begin 1\nrow 1\n", "wrong\n"):
            self.assertIs(error_of(replay, text), JournalError, text)
            self.assertIs(error_of(replay_whole_lines, text), JournalError, text)

    def test_text_of_the_catalogue(self):
        for text, due in (
            ("wrong\n", TextError), ("\n", TextError), ("table t 1\nrow 01\n", TextError), ("row 1\n", TextError),
            ("table t 1\n\n", TextError), ("table t  1\n", TextError), ("table t 5\n", CatalogueError),
            ("table t 1\nrow 2\nrow 1\n", CatalogueError), ("table T 1\n", CatalogueError),
            ("table b 1\ntable a 1\n", CatalogueError), (write_table(301), TooLarge),
            ("".join(f"table t{n} 1\n" for n in range(9)), TooLarge), ("table t 1\nrow 1234567890\n", TextError),
            ("add t 1\n", TextError),
        ):
            for rest in ("begin\n", "begin\nwrong\n", "begin\nbegin\n", "begin\nfall x\n"):
                self.assertIs(error_of(replay, text + rest), due, text)
                self.assertIs(error_of(replay_whole_lines, text + rest + "beg"), due, text)
            # Without its end or the line, what it says of tables is not looked at.
            self.assertIs(error_of(replay, text), JournalError)
            self.assertIs(error_of(replay, text + "begin\nfall"), JournalError)

    def test_lines_that_are_no_deeds(self):
        for line in (
            "", " ", "wrong", "table t 1", "row 1", "begin", "Begin", "answers q", "ways q", "stand", "stand ", "fall",
            "fall ", "add", "add ", "add e", "add e ", "drop", "drop e", "Fall q", " fall q", "fall q ", "fall  q",
            "fall q q", "fall q fall", "stand p", "stand p ", "stand <- on(x)", "stand  <- on(x)", "stand p  <- on(x)",
            "stand  p <- on(x)", "stand p <-  on(x)", "stand p <- on(x) ", "stand p on(x)", "stand p x on(x)",
            "stand p <- on()", "stand p <- ", "stand p q <- on(x)", "stand p x<- on(x)", "stand p <- on(x),e(x, y)",
            "add e 5", "add e 5 6 7", "add e 5 6 ", "add  e 5 6", "add e  5 6", "add e 5  6", "add on", "add on 1 2",
            "add 5 6", "add e 05 6", "add e -0 6", "add e 00 6", "add e +5 6", "add e 5 x", "add e 5,6", "add e 5.0 6",
            "add e 1234567890 6", "add e -1234567890 6", "add e 0000000001 6", "add e 5 - 6", "add e 5 6\r",
            "add e 5\t6", "drop e 3", "drop e 3 3 3", "drop e 3 3 ", "drop  e 3 3", "drop e 03 3", "drop e 3 -0", "drop on", "drop",
            "wrong e 3 3", "row e 3 3", "dropp e 3 3", "remove e 3 3", "put e 5 6", "add E 5 6", "adde 5 6", "stand P <- on(x)", "stand 1p <- on(x)", "fall Q",
        ):
            for rest in ("", "fall q\n"):
                text = START + "stand q <- on(x)\n" + line + "\n" + rest
                self.assertIs(error_of(replay, text), JournalError, line)
                self.assertIs(error_of(replay_whole_lines, text + "fa"), JournalError, line)

    def test_deeds_that_are_refused(self):
        for line in (
            "stand q <- on(x)", "stand p <- off(x)", "stand p <- e(x)", "stand p x, x <- on(x)", "stand p y <- on(x)",
            "stand p <- " + ", ".join(["on(x)"] * 9), "fall p", "add off 1", "drop off 1", "add e 1 2", "drop e 2 1",
            "stand " + "p" * 21 + " <- on(x)", "stand p <- 1on(x)",
        ):
            self.assertIs(error_of(replay, START + "stand q <- on(x)\n" + line + "\n"), JournalError, line)
        eight = "".join(f"stand p{n} <- on(x)\n" for n in range(8))
        self.assertEqual(len(replay(START + eight).names), 8)
        self.assertIs(error_of(replay, START + eight + "stand q <- on(x)\n"), JournalError)
        full = write_table(300) + "begin\n"
        self.assertIs(error_of(replay, full + "add t 300\n"), JournalError)
        self.assertIs(error_of(replay, full + "stand p <- t(x), t(y)\n"), JournalError)
        self.assertIs(error_of(replay, write_table(141) + "begin\nstand p <- t(x), t(y)\nadd t 141\n"), JournalError)
        self.assertIs(error_of(replay, write_table(140) + "begin\nstand p <- t(x), t(y)\nadd t 140\n"), None)

    def test_a_line_begin_twice(self):
        self.assertIs(error_of(replay, START + "begin\n"), JournalError)
        self.assertIs(error_of(replay, "begin\n" + START), JournalError)
        self.assertIs(error_of(replay, START + "add e 5 6\nbegin\nadd e 6 7\n"), JournalError)

    def test_after_an_error_nothing_is_left(self):
        self.assertIs(error_of(replay, START + "add e 5 6\nadd e 5 6\n"), JournalError)
        self.assertEqual(replay(START + "add e 5 6\n").log, START + "add e 5 6\n")


def write_table(count):
    return write_catalogue((table_with(count),)) if count <= 300 else "table t 1\n" + "".join(
        f"row {n}\n" for n in range(count))


if __name__ == "__main__":
    unittest.main()
