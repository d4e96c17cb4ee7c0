"""Trees of parts for given rows, chosen so that not many rows fit their bags."""

from joinhall.meaning import entries_at
from joinhall.widths import best_order, links_of, parts_along


class Bounds:
    """Bounds of how many rows fit bags, from relations: pairs of rows and their variables."""

    def __init__(self, relations):
        self._relations = relations
        self._spreads = {}
        self._bounds = {(): 1}

    def spread(self, at, shared):
        """Return how many different tuples the rows of a relation have for some variables."""
        key = (at, shared)
        if key not in self._spreads:
            rows, names = self._relations[at]
            places = [names.index(variable) for variable in shared]
            self._spreads[key] = len(set([entries_at(row, places) for row in rows]))
        return self._spreads[key]

    def by_relation(self, at, bag):
        """Return the bound of a bag in which one relation speaks for all variables that it has."""
        names = self._relations[at][1]
        shared = tuple([variable for variable in bag if variable in names])
        rest = tuple([variable for variable in bag if variable not in names])
        return self.spread(at, shared) * self.bound(rest)

    def bound(self, bag):
        """Return a number that no more rows than this fit a bag."""
        if bag not in self._bounds:
            having = [at for at, (_, names) in enumerate(self._relations) if bag[0] in names]
            self._bounds[bag] = min([self.by_relation(at, bag) for at in having])
        return self._bounds[bag]

    def grown(self, cost, bag):
        """Return a cost with the bound of one bag more."""
        return cost + self.bound(bag)


def cheap_parts(relations):
    """Return a right tree of parts for the variables of relations whose bags have the least
    bounds, added up."""
    links = links_of(relations)
    bounds = Bounds(relations)
    return parts_along(links, best_order(links, bounds.grown))
