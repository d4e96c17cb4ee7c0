"""Tries: the tuples that some columns of rows make, told prefix by prefix."""

from joinhall.errors import RowError


def check_positions(rows, positions):
    """Return None, or raise RowError if positions are not different indexes of all rows."""
    if len(positions) == 0:
        raise RowError("there are no positions")
    if len(set(positions)) != len(positions):
        raise RowError("a position stands twice")
    # Python would count a negative number from the end, but no column has it.
    if any([position < 0 or position >= len(row) for row in rows for position in positions]):
        raise RowError("a position is no index of some row")


class Trie:
    """The different tuples of the entries of rows at some positions."""

    def __init__(self, rows, positions):
        check_positions(rows, positions)
        tuples = sorted(set([tuple([row[position] for position in positions]) for row in rows]))
        below = {}
        for one in tuples:
            for length in range(len(one)):
                found = below.setdefault(one[:length], [])
                # The tuples ascend, so equal integers behind a prefix come in a row.
                if len(found) == 0 or found[-1] != one[length]:
                    found.append(one[length])
            below[one] = []
        self._count = len(tuples)
        self._below = {prefix: tuple(found) for prefix, found in below.items()}

    def count(self):
        """Return how many different tuples there are."""
        return self._count

    def children(self, prefix):
        """Return, ascending, the integers that follow a prefix."""
        return self._below.get(prefix, ())

    def has(self, prefix):
        """Tell whether one of the tuples begins with a tuple."""
        return prefix in self._below


def kept_in(numbers, row):
    """Return the list of those numbers that are in a row, in their order."""
    members = set(row)
    return [n for n in numbers if n in members]


def common(rows):
    """Return, ascending, the integers that are in all of some strictly ascending tuples."""
    if len(rows) == 0:
        return ()
    found = rows[0]
    for row in rows[1:]:
        found = kept_in(found, row)
    return tuple(found)
