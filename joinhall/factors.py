"""All fitting assignments of a pattern along a tree of parts, without a list of them."""

from joinhall.bags import empty_bags
from joinhall.errors import NoAnswer, PartsError, TooLarge
from joinhall.joins import VISIT_LIMIT
from joinhall.meaning import entries_at
from joinhall.partials import count_partials, list_partials, relations_of, search_for
from joinhall.parts import check_parts, order_of
from joinhall.patterns import check_fit


def bag_rows(relations, variables):
    """Return the partial answers for some variables, in their order, ascending."""
    search = search_for(relations, variables)
    # They are counted first: there may be far too many to list them.
    if count_partials(search) > VISIT_LIMIT:
        raise TooLarge("a part has too many partial answers")
    return list_partials(search, variables)


class Factors:
    """The fitting assignments of a pattern, as tuples in the order of the parts, ascending."""

    def __init__(self, catalogue, pattern, parts):
        check_fit(catalogue, pattern)
        if not check_parts(pattern, parts):
            raise PartsError("the parts are not right for the pattern")
        self._order = order_of(parts)
        self._bags = empty_bags(parts, self._order)
        relations = relations_of(catalogue, pattern)
        for bag in reversed(self._bags):
            bag.fill(bag_rows(relations, bag.variables), [self._bags[at] for at in bag.below])

    @property
    def order(self):
        """The variables in the order of the assignments."""
        return self._order

    def count(self):
        """Return how many fitting assignments there are."""
        return self.begins(())

    def begins(self, prefix):
        """Return how many fitting assignments begin with a tuple of integers."""
        if len(prefix) > len(self._order):
            return 0
        ways = 1
        for bag in self._bags:
            if bag.ready <= len(prefix):
                here = bag.ways(prefix)
                if here == 0:
                    return 0
                # Of a part that has all its integers, those below it speak for themselves.
                if len(prefix) < bag.end:
                    ways = ways * here
        return ways

    def bag_at(self, place):
        """Return the bag that has the variable at a place of the order as a fresh one."""
        return [bag for bag in self._bags if bag.first <= place and place < bag.end][0]

    def shares(self, prefix):
        """Return pairs (n, ways) of the integers that follow a prefix, ascending, and how many
        fitting assignments begin with the prefix and the integer."""
        ways = self.begins(prefix)
        if ways == 0 or len(prefix) == len(self._order):
            return []
        bag = self.bag_at(len(prefix))
        key = bag.key(prefix)
        # The ways are those of this part times those of others, which it does not change.
        others = ways // bag.sums[key]
        return [(n, others * bag.sums[key + (n,)]) for n in bag.trie.children(key)]

    def next_ones(self, prefix):
        """Return, ascending, the integers that follow a prefix in fitting assignments."""
        return tuple([n for n, _ in self.shares(prefix)])

    def answer(self, k):
        """Return the fitting assignment number k, from 0 on."""
        if k < 0 or k >= self.count():
            raise NoAnswer("there is no fitting assignment with this number")
        row = ()
        left = k
        for _ in self._order:
            n, left = self.step(row, left)
            row = row + (n,)
        return row

    def step(self, prefix, left):
        """Return the integer that follows a prefix in one of the fitting assignments that begin
        with it, told by its number among these, and its number among those with the integer."""
        for n, ways in self.shares(prefix):
            if left < ways:
                return (n, left)
            left = left - ways
        raise NoAnswer("so many fitting assignments do not begin with the prefix")

    def number(self, row):
        """Return the number of a fitting assignment, None of what is none."""
        if len(row) != len(self._order) or self.begins(row) == 0:
            return None
        return sum([self.ways_before(row[:at], n) for at, n in enumerate(row)])

    def ways_before(self, prefix, limit):
        """Return how many fitting assignments go on from a prefix with less than a limit."""
        return sum([ways for n, ways in self.shares(prefix) if n < limit])

    def rows(self):
        """Return all fitting assignments, ascending."""
        found = [()]
        for bag in self._bags:
            ends = {}
            for row in bag.live:
                ends.setdefault(row[:bag.depth], []).append(row[bag.depth:])
            found = [row + end for row in found for end in ends.get(entries_at(row, bag.seen), [])]
        return tuple(found)

    def levels(self):
        """Return how many different tuples the first integers of the fitting assignments are,
        for each number of these."""
        return tuple([self.count_begun(k + 1) for k in range(len(self._order))])

    def count_begun(self, many):
        """Return how many different tuples the first integers, so many, are."""
        # From a live row each part goes on below, so the parts behind need not be looked at.
        counts = {}
        for at in reversed(range(len(self._bags))):
            bag = self._bags[at]
            if bag.first < many:
                below = [(self._bags[other].upward, counts[other]) for other in bag.below if other in counts]
                counts[at] = bag.counts(many, below)
        return counts[0].get((), 0)
