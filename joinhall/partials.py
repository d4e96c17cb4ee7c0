"""Partial answers: integers for some variables that no single atom speaks against."""

from joinhall.catalogues import table_of
from joinhall.meaning import entries_at, repeats_agree
from joinhall.tries import Trie, common


def linked(atoms, one, other):
    """Tell whether some atom has both of two variables."""
    return any([one in variables and other in variables for _, variables in atoms])


def open_ones(atoms, taken, rest):
    """Return those of the variables taken that an atom has beside one of the rest."""
    return [one for one in taken if any([linked(atoms, one, other) for other in rest])]


def rank(atoms, taken, rest, variable):
    """Return what tells how good it is to take a variable next: the less, the better."""
    later = [other for other in rest if other != variable]
    alone = not any([linked(atoms, one, variable) for one in taken])
    return (alone, len(open_ones(atoms, [*taken, variable], later)), variable)


def short_order(atoms, variables):
    """Return the variables in an order in which few earlier ones matter to later ones."""
    taken = []
    rest = list(variables)
    while len(rest) > 0:
        chosen = min([rank(atoms, taken, rest, variable) for variable in rest])[2]
        taken.append(chosen)
        rest.remove(chosen)
    return tuple(taken)


def fitting_rows(catalogue, atom):
    """Return the rows that fit an atom as long as no variable has an integer."""
    name, variables = atom
    return [row for row in table_of(catalogue, name)[2] if repeats_agree(row, variables)]


def relations_of(catalogue, pattern):
    """Return for each atom the pair of the rows that fit it and of its variables."""
    return [(fitting_rows(catalogue, atom), atom[1]) for atom in pattern[1]]


class Partials:
    """The partial answers for some variables, one variable after another. In place of atoms
    there are relations: pairs of the rows that fit and of the variables at their places."""

    def __init__(self, relations, variables):
        self.variables = variables
        self._possible = all([len(rows) > 0 for rows, _ in relations])
        # For each variable the tries of the relations that have it, each one with the places
        # of the earlier variables that this relation has: they are the prefix to look under.
        self._probes = [[] for _ in variables]
        for rows, own in relations:
            self.add_probes(rows, own)
        self._near = [self.places_beside(at) for at in range(len(variables))]
        self._open = [self.open_places(at) for at in range(len(variables))]
        self._followers = {}
        self._ways = {}

    def add_probes(self, rows, own):
        """Put in the trie of a relation with its own variables, where it has some of these."""
        shared = [place for place, variable in enumerate(self.variables) if variable in own]
        if len(shared) == 0:
            return
        trie = Trie(rows, tuple([own.index(self.variables[place]) for place in shared]))
        for at, place in enumerate(shared):
            self._probes[place].append((trie, shared[:at]))

    def places_beside(self, at):
        """Return the places of the earlier variables that stand beside one in a relation."""
        return sorted(set([place for _, places in self._probes[at] for place in places]))

    def open_places(self, at):
        """Return the places of the earlier variables that matter to some from a place on."""
        return sorted(set([place for near in self._near[at:] for place in near if place < at]))

    def start(self):
        """Return the list of the partial answers for no variables."""
        return [()] if self._possible else []

    def following(self, partial):
        """Return, ascending, the integers that follow a partial answer in longer ones."""
        at = len(partial)
        key = (at, entries_at(partial, self._near[at]))
        if key not in self._followers:
            rows = [trie.children(entries_at(partial, places)) for trie, places in self._probes[at]]
            self._followers[key] = common(rows)
        return self._followers[key]

    def longer(self, partial):
        """Return the partial answers that are one integer longer than one, ascending."""
        return [partial + (n,) for n in self.following(partial)]

    def ways(self, partial):
        """Return how many partial answers for all the variables begin with one."""
        at = len(partial)
        if at == len(self.variables):
            return 1
        # Partial answers that agree where later variables look go on in the same ways.
        key = (at, entries_at(partial, self._open[at]))
        if key not in self._ways:
            self._ways[key] = sum([self.ways(one) for one in self.longer(partial)])
        return self._ways[key]


def search_for(relations, variables):
    """Return a search of the partial answers for some variables, in a short order of them."""
    return Partials(relations, short_order(relations, variables))


def count_partials(search):
    """Return how many partial answers for all its variables a search finds."""
    return sum([search.ways(partial) for partial in search.start()])


def going_on(search, partials):
    """Return those partial answers, one integer longer than some, that lead to whole ones."""
    return [row for partial in partials for row in search.longer(partial) if search.ways(row) > 0]


def list_partials(search, variables):
    """Return the partial answers that a search finds for all its variables, as tuples in
    this order of them, ascending."""
    found = search.start()
    for _ in search.variables:
        # Those without a way on are left out at once: there may be far more of them.
        found = going_on(search, found)
    places = [search.variables.index(variable) for variable in variables]
    return sorted([entries_at(row, places) for row in found])


def least_partial(search):
    """Return the least partial answer that a search finds for all its variables, None if
    there is none."""
    found = search.start()
    for _ in search.variables:
        found = going_on(search, found)[:1]
    return found[0] if len(found) > 0 else None
