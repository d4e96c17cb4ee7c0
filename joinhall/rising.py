"""Totals that go up a tree of parts."""

from joinhall.arithmetics import multiply_ways
from joinhall.errors import TooLarge
from joinhall.facts import facts_at, places_of
from joinhall.meaning import entries_at
from joinhall.partials import list_partials, search_for

PAIR_LIMIT = 2000


class Amount:
    """The plus of values that come one by one. A polynomial may not have too many pairs."""

    # On the way up a tree it may not, either: each row there is part of a fitting assignment,
    # so that the result has at least as many pairs as what is added up or multiplied before.

    def __init__(self, scale):
        self._scale = scale
        self._value = scale.plus([])
        self._factors = {}

    def grow(self, value):
        """Take in one value more."""
        if not self._scale.has_polynomials():
            self._value = self._scale.plus([self._value, value])
            return
        for facts, factor in value:
            self._factors[facts] = self._factors.get(facts, 0) + factor
        if len(self._factors) > PAIR_LIMIT:
            raise TooLarge("a polynomial would have too many pairs")

    def value(self):
        """Return the plus of all that was taken in."""
        if self._scale.has_polynomials():
            return tuple(sorted(self._factors.items()))
        return self._value


def product_within(scale, one, other):
    """Return the times of two values, of which a polynomial may not have too many pairs."""
    if not scale.has_polynomials():
        return scale.times([one, other])
    amount = Amount(scale)
    for pair in one:
        amount.grow(multiply_ways((pair,), other))
    return amount.value()


def shared_with(bag, above, parts):
    """Return those variables of a bag that the bag above it has, too."""
    if above == -1:
        return ()
    return tuple([variable for variable in bag if variable in parts[above][0]])


def rows_by_shared(relations, parts):
    """Return for each part its rows by the integers of the variables that it shares with the
    part above. Only such rows are there as go on in all parts below."""
    found = [{} for _ in parts]
    narrowed = [list(relations) for _ in parts]
    for at in reversed(range(len(parts))):
        bag, above = parts[at]
        shared = shared_with(bag, above, parts)
        places = [bag.index(variable) for variable in shared]
        for row in list_partials(search_for(narrowed[at], bag), bag):
            found[at].setdefault(entries_at(row, places), []).append(row)
        if above >= 0:
            # The part above takes only what goes on here.
            narrowed[above].append((list(found[at]), shared))
    return found


def atoms_by_part(atoms, parts):
    """Return for each part the list of the atoms that count there: each atom counts in the
    first part that has all its variables."""
    found = [[] for _ in parts]
    for atom in atoms:
        homes = [at for at, (bag, _) in enumerate(parts) if all([variable in bag for variable in atom[1]])]
        found[homes[0]].append(atom)
    return found


class Rising:
    """The totals of the parts of a tree, each of them with all parts below it."""

    def __init__(self, scale, atoms, relations, parts):
        self._scale = scale
        self._rows = rows_by_shared(relations, parts)
        found = atoms_by_part(atoms, parts)
        self._uses = [places_of(found[at], bag) for at, (bag, _) in enumerate(parts)]
        # For each part the numbers of those directly below it, each one with the places in
        # its own rows of the variables that it shares with them.
        self._below = [[] for _ in parts]
        for at, (bag, above) in enumerate(parts):
            if above >= 0:
                shared = shared_with(bag, above, parts)
                self._below[above].append((at, [parts[above][0].index(variable) for variable in shared]))
        self._totals = {}

    def total_at(self, at, key):
        """Return the plus over all rows of a part with these integers for what it shares."""
        if (at, key) not in self._totals:
            amount = Amount(self._scale)
            for row in self._rows[at].get(key, []):
                amount.grow(self.row_total(at, row))
            self._totals[(at, key)] = amount.value()
        return self._totals[(at, key)]

    def row_total(self, at, row):
        """Return the times of the weights in a row of a part and of the totals below it."""
        total = self._scale.worth(facts_at(row, self._uses[at]))
        for other, places in self._below[at]:
            total = product_within(self._scale, total, self.total_at(other, entries_at(row, places)))
        return total
