import random
import unittest

from helper import error_of
from joinhall.errors import WalkError
from joinhall.tries import Trie
from joinhall.walking import Walker

ROWS = ((1, 10), (1, 20), (3, 10), (5, 10), (5, 30), (5, 50))


def walker():
    return Walker(Trie(ROWS, (0, 1)))


def told(walk):
    """Return all that a walker tells about where it is."""
    key = None if walk.level() == 0 or walk.at_end() else walk.key()
    return (walk.level(), walk.at_end(), key, walk.moves())


def walk_whole(walk):
    """Return the tuples that a walker finds below where it is, and go back there."""
    if error_of(walk.down) is WalkError:
        return [()]
    found = []
    while not walk.at_end():
        key = walk.key()
        found.extend((key, *rest) for rest in walk_whole(walk))
        walk.next()
    walk.up()
    return found


class Model:
    """The same as a walker, told by the tuples themselves: where it is is a list of keys, of
    which the last one is None at an end."""

    def __init__(self, tuples):
        self.tuples = tuples
        self.keys = []
        self.moves = 0

    def level_from(self, keys, low):
        """Return the least integer from `low` on that follows keys, None if there is none."""
        size = len(keys)
        return min((one[size] for one in self.tuples
                    if len(one) > size and list(one[:size]) == keys and one[size] >= low), default=None)

    def down(self):
        first = None if self.keys[-1:] == [None] else self.level_from(self.keys, -99)
        if first is None:
            return False
        self.keys.append(first)
        self.moves += 1
        return True

    def up(self):
        if not self.keys:
            return False
        self.keys.pop()
        return True

    def seek(self, n):
        if not self.keys or self.keys[-1] is None:
            return False
        self.keys[-1] = self.level_from(self.keys[:-1], max(n, self.keys[-1]))
        self.moves += 1
        return True

    def next(self):
        return self.seek(self.keys[-1] + 1) if self.keys and self.keys[-1] is not None else False

    def told(self):
        at_end = self.keys[-1:] == [None]
        return (len(self.keys), at_end, self.keys[-1] if self.keys else None, self.moves)


class Walking(unittest.TestCase):
    """Point 402."""

    def test_the_top(self):
        walk = walker()
        self.assertEqual(told(walk), (0, False, None, 0))
        for call in (walk.up, walk.key, walk.next):
            self.assertIs(error_of(call), WalkError)
        self.assertIs(error_of(walk.seek, 1), WalkError)
        self.assertEqual(told(walk), (0, False, None, 0))

    def test_whole_trie(self):
        walk = walker()
        self.assertEqual(walk_whole(walk), list(ROWS))
        # 1 + 3 times down, 6 + 3 times next.
        self.assertEqual(told(walk), (0, False, None, 13))
        self.assertEqual(walk_whole(walk), list(ROWS))

    def test_down_and_up(self):
        walk = walker()
        self.assertIsNone(walk.down())
        self.assertEqual(told(walk), (1, False, 1, 1))
        walk.next()
        walk.next()
        walk.down()
        self.assertEqual(told(walk), (2, False, 10, 4))
        walk.next()
        self.assertEqual(told(walk), (2, False, 30, 5))
        self.assertIsNone(walk.up())
        self.assertEqual(told(walk), (1, False, 5, 5))
        walk.down()
        self.assertEqual(told(walk), (2, False, 10, 6))
        walk.up()
        walk.up()
        self.assertEqual(told(walk), (0, False, None, 6))
        walk.down()
        self.assertEqual(told(walk), (1, False, 1, 7))

    def test_down_below_a_whole_tuple(self):
        walk = walker()
        walk.down()
        walk.down()
        self.assertIs(error_of(walk.down), WalkError)
        self.assertEqual(told(walk), (2, False, 10, 2))

    def test_next(self):
        walk = walker()
        walk.down()
        self.assertIsNone(walk.next())
        self.assertEqual(told(walk), (1, False, 3, 2))
        walk.next()
        walk.next()
        self.assertEqual(told(walk), (1, True, None, 4))

    def test_the_end(self):
        walk = walker()
        walk.down()
        walk.seek(99)
        self.assertEqual(told(walk), (1, True, None, 2))
        for call in (walk.down, walk.key, walk.next):
            self.assertIs(error_of(call), WalkError)
        self.assertIs(error_of(walk.seek, 1), WalkError)
        self.assertIs(error_of(walk.seek, 100), WalkError)
        self.assertEqual(told(walk), (1, True, None, 2))
        walk.up()
        self.assertEqual(told(walk), (0, False, None, 2))

    def test_up_from_the_end(self):
        walk = walker()
        walk.down()
        walk.next()
        walk.down()
        walk.next()
        self.assertEqual(told(walk), (2, True, None, 4))
        walk.up()
        self.assertEqual(told(walk), (1, False, 3, 4))
        walk.next()
        self.assertEqual(told(walk), (1, False, 5, 5))

    def test_seek(self):
        walk = walker()
        walk.down()
        self.assertIsNone(walk.seek(3))
        self.assertEqual(told(walk), (1, False, 3, 2))
        walk.seek(3)
        self.assertEqual(told(walk), (1, False, 3, 3))
        walk.seek(1)
        self.assertEqual(told(walk), (1, False, 3, 4))
        walk.seek(-7)
        self.assertEqual(told(walk), (1, False, 3, 5))
        walk.seek(4)
        self.assertEqual(told(walk), (1, False, 5, 6))
        walk.seek(6)
        self.assertEqual(told(walk), (1, True, None, 7))

    def test_seek_in_a_long_row(self):
        rows = tuple((n,) for n in range(-300, 300, 3))
        for n in range(-305, 305):
            walk = Walker(Trie(rows, (0,)))
            walk.down()
            walk.next()
            walk.seek(n)
            due = min((row[0] for row in rows if row[0] >= max(n, -297)), default=None)
            self.assertEqual(told(walk), (1, due is None, due, 3))

    def test_trie_without_rows(self):
        walk = Walker(Trie((), (0,)))
        for call in (walk.down, walk.up, walk.key, walk.next):
            self.assertIs(error_of(call), WalkError)
        self.assertIs(error_of(walk.seek, 0), WalkError)
        self.assertEqual(told(walk), (0, False, None, 0))

    def test_two_walkers_do_not_disturb_each_other(self):
        trie = Trie(ROWS, (0, 1))
        one = Walker(trie)
        other = Walker(trie)
        one.down()
        one.next()
        self.assertEqual(told(other), (0, False, None, 0))
        other.down()
        self.assertEqual((one.key(), other.key()), (3, 1))

    def test_kinds(self):
        walk = walker()
        self.assertIs(walk.at_end(), False)
        walk.down()
        self.assertIs(walk.at_end(), False)
        walk.seek(9)
        self.assertIs(walk.at_end(), True)
        self.assertEqual((type(walk.level()), type(walk.moves())), (int, int))

    def test_drawn_walks(self):
        dice = random.Random(402)
        for _ in range(150):
            columns = dice.randint(1, 3)
            rows = tuple(sorted({tuple(dice.randint(-2, 3) for _ in range(columns))
                                 for _ in range(dice.randint(0, 20))}))
            walk = Walker(Trie(rows, tuple(range(columns))))
            model = Model(rows)
            for _ in range(60):
                name = dice.choice(("down", "down", "up", "next", "seek"))
                given = (dice.randint(-3, 4),) if name == "seek" else ()
                done = getattr(model, name)(*given)
                self.assertIs(error_of(getattr(walk, name), *given), None if done else WalkError)
                self.assertEqual(told(walk), model.told())


if __name__ == "__main__":
    unittest.main()
