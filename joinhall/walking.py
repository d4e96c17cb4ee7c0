"""Walking through a trie, one integer at a time."""

from joinhall.errors import WalkError


def first_place(row, place, n):
    """Return the first place, from a place of an ascending row on, of an integer that is
    at least n, or the length of the row if there is none."""
    low = place
    high = len(row)
    while low < high:
        middle = (low + high) // 2
        if row[middle] < n:
            low = middle + 1
        else:
            high = middle
    return low


class Walker:
    """A place in a trie: the row of children of each level down to it, and a place in each."""

    def __init__(self, trie):
        self._trie = trie
        self._children = []
        self._places = []
        self._moves = 0

    def check_key(self):
        """Return None, or raise WalkError if the walker is at no integer."""
        if self.level() == 0:
            raise WalkError("the walker is at the top")
        if self.at_end():
            raise WalkError("the walker is at the end of a row of children")

    def down(self):
        """Go to the first child of where the walker is."""
        if self.at_end():
            raise WalkError("the walker is at the end of a row of children")
        prefix = tuple([row[place] for row, place in zip(self._children, self._places)])
        row = self._trie.children(prefix)
        if len(row) == 0:
            raise WalkError("there are no children")
        self._children.append(row)
        self._places.append(0)
        self._moves += 1

    def up(self):
        """Go back to where `down` was called."""
        if self.level() == 0:
            raise WalkError("the walker is at the top")
        self._children.pop()
        self._places.pop()

    def key(self):
        """Return the integer at which the walker is."""
        self.check_key()
        return self._children[-1][self._places[-1]]

    def next(self):
        """Go to the next integer, or to the end behind the last one."""
        self.check_key()
        self._places[-1] += 1
        self._moves += 1

    def seek(self, n):
        """Go on to the first integer, from where the walker is, that is at least n."""
        self.check_key()
        self._places[-1] = first_place(self._children[-1], self._places[-1], n)
        self._moves += 1

    def at_end(self):
        """Tell whether the walker is behind the last integer of a row of children."""
        return self.level() > 0 and self._places[-1] == len(self._children[-1])

    def level(self):
        """Return how many levels below the top the walker is."""
        return len(self._places)

    def moves(self):
        """Return how many calls of down, next and seek raised no error."""
        return self._moves
