"""The bags of a tree of parts, filled with the integers that fitting assignments give them."""

from joinhall.meaning import entries_at
from joinhall.tries import Trie


def weighed(rows, below):
    """Return pairs (row, ways) for those rows of a bag that go on in all bags below it. Each
    of these is told by the places of the shared variables in a row, and by the numbers of ways
    that there are for their integers."""
    found = []
    for row in rows:
        ways = 1
        for places, sums in below:
            ways = ways * sums.get(entries_at(row, places), 0)
        if ways > 0:
            found.append((row, ways))
    return found


def sums_of(pairs, lengths):
    """Return the sums of the ways of rows by the first integers of the rows, for some numbers
    of these."""
    sums = {}
    for row, ways in pairs:
        for length in lengths:
            sums[row[:length]] = sums.get(row[:length], 0) + ways
    return sums


class Bag:
    """One part. Its rows give integers to the variables that it shares with the part above,
    and behind them to its fresh ones."""

    def __init__(self, variables, above, order):
        shared = [variable for variable in variables if above is not None and variable in above.variables]
        fresh = [variable for variable in variables if variable not in shared]
        self.variables = (*shared, *fresh)
        self.depth = len(shared)
        # The places of the shared variables in rows of the part above, and in the whole order.
        self.upward = [above.variables.index(variable) for variable in shared]
        self.seen = [order.index(variable) for variable in shared]
        # The fresh variables stand in a row in the whole order. From `ready` on, all variables
        # of the part above are in front, so that this part does not depend on others behind.
        self.ready = 0 if above is None else above.end
        self.first = self.ready if len(fresh) == 0 else order.index(fresh[0])
        self.end = self.first + len(fresh)
        self.below = []
        self.live = []
        self.sums = {}
        self.trie = None

    def fill(self, rows, below):
        """Take those of the rows, which ascend, that go on in all parts directly below, which
        are filled already."""
        pairs = weighed(rows, [(bag.upward, bag.sums) for bag in below])
        size = len(self.variables)
        self.live = [row for row, _ in pairs]
        self.sums = sums_of(pairs, list(range(self.depth, size + 1)))
        self.trie = Trie(self.live, tuple(range(size)))

    def key(self, prefix):
        """Return what a prefix of a whole assignment says of this part, which must be ready."""
        return entries_at(prefix, self.seen) + prefix[self.first:self.end]

    def ways(self, prefix):
        """Return in how many ways the part and all below it go on from a prefix."""
        return self.sums.get(self.key(prefix), 0)

    def counts(self, many, below):
        """Return, by the integers of the shared variables, how many different tuples this part
        and those below have for such of their variables as are among the first ones of the
        whole order. `below` tells the same of the parts directly below, as `weighed` takes it."""
        size = self.depth + min(many, self.end) - self.first
        rows = sorted(set([row[:size] for row in self.live]))
        return sums_of(weighed(rows, below), [self.depth])


def empty_bags(parts, order):
    """Return a bag for each part, in the order of the parts, none of them filled."""
    bags = []
    for at, (variables, above) in enumerate(parts):
        if above == -1:
            bags.append(Bag(variables, None, order))
        else:
            bags.append(Bag(variables, bags[above], order))
            bags[above].below.append(at)
    return bags
