"""One standing pattern: its answers, and in how many ways each of them is there."""

from joinhall.errors import TooLarge
from joinhall.joins import VISIT_LIMIT, join
from joinhall.meaning import entries_at, repeats_agree
from joinhall.partials import count_partials, list_partials, relations_of, search_for
from joinhall.patterns import occurring


def assignments_with(catalogue, pattern, table, row):
    """Return all fitting assignments that use a row of a table for some atom, each once."""
    order = occurring(pattern[1])
    relations = relations_of(catalogue, pattern)
    found = {}
    for at, (name, variables) in enumerate(pattern[1]):
        if name == table and repeats_agree(row, variables):
            # Here the atom takes this row only.
            pinned = relations[:at] + [([row], variables)] + relations[at + 1:]
            search = search_for(pinned, order)
            # They are counted first: there may be far too many to list them.
            if count_partials(search) > VISIT_LIMIT:
                raise TooLarge("too many fitting assignments use the row")
            for one in list_partials(search, order):
                # One that uses the row for several atoms is found again for each of these.
                found[one] = True
    return list(found)


class Standing:
    """A pattern with the number of fitting assignments that give each of its answers."""

    def __init__(self, catalogue, pattern):
        order = occurring(pattern[1])
        rows, _ = join(catalogue, pattern, order)
        self._pattern = pattern
        self._places = [order.index(variable) for variable in pattern[0]]
        self._tally = {}
        self._sum = 0
        self.gain(self.given_by(rows))

    def given_by(self, rows):
        """Return, one by one, the answers that fitting assignments give."""
        return [entries_at(row, self._places) for row in rows]

    def told(self):
        """Return the answers, ascending."""
        return tuple(sorted(self._tally))

    def many(self, answer):
        """Return how many fitting assignments give an answer."""
        return self._tally.get(answer, 0)

    def using(self, catalogue, table, row):
        """Return, one by one, the answers given by the assignments that use a row."""
        return self.given_by(assignments_with(catalogue, self._pattern, table, row))

    def coming(self, catalogue, table, row):
        """Return the same of a row that is to come, if there is room for so many."""
        given = self.using(catalogue, table, row)
        if self._sum + len(given) > VISIT_LIMIT:
            raise TooLarge("there would be too many fitting assignments")
        return given

    def gain(self, given):
        """Take in answers, one for each assignment, and return those that are new, ascending."""
        fresh = sorted(set([answer for answer in given if answer not in self._tally]))
        for answer in given:
            self._tally[answer] = self.many(answer) + 1
        self._sum = self._sum + len(given)
        return tuple(fresh)

    def lose(self, given):
        """Give up answers, one for each assignment, and return those that are gone, ascending."""
        for answer in given:
            self._tally[answer] = self._tally[answer] - 1
        gone = sorted(set([answer for answer in given if self._tally[answer] == 0]))
        for answer in gone:
            del self._tally[answer]
        self._sum = self._sum - len(given)
        return tuple(gone)
