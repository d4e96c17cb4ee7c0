"""Partial answers: integers for some variables that no single atom speaks against."""

from joinhall.catalogues import table_of
from joinhall.meaning import entries_at, repeats_agree
from joinhall.tries import Trie, common


def linked(atoms, one, other):
    """Tell whether some atom has both of two variables."""
    return any([one in variables and other in variables for _, variables in atoms])


def open_ones(atoms, taken, rest):
    """Return those of the variables taken that an atom has beside one of the rest."""
    return [one for one in taken if any([linked(atoms, one, other) for other in rest])]


def rank(atoms, taken, rest, variable):
    """Return what tells how good it is to take a variable next: the less, the better."""
    later = [other for other in rest if other != variable]
    alone = not any([linked(atoms, one, variable) for one in taken])
    return (alone, len(open_ones(atoms, [*taken, variable], later)), variable)


def short_order(pattern, variables):
    """Return the variables in an order in which few earlier ones matter to later ones."""
    taken = []
    rest = list(variables)
    while len(rest) > 0:
        chosen = min([rank(pattern[1], taken, rest, variable) for variable in rest])[2]
        taken.append(chosen)
        rest.remove(chosen)
    return tuple(taken)


def fitting_rows(catalogue, atom):
    """Return the rows that fit an atom as long as no variable has an integer."""
    name, variables = atom
    return [row for row in table_of(catalogue, name)[2] if repeats_agree(row, variables)]


class Partials:
    """The partial answers of a pattern for some variables, one variable after another."""

    def __init__(self, catalogue, pattern, variables):
        self._size = len(variables)
        self._possible = True
        # For each variable the tries of the atoms that have it, each one with the places
        # of the earlier variables that its atom has: they are the prefix to look under.
        self._probes = [[] for _ in variables]
        for atom in pattern[1]:
            rows = fitting_rows(catalogue, atom)
            self._possible = self._possible and len(rows) > 0
            self.add_probes(rows, atom[1], variables)
        self._near = [self.places_beside(at) for at in range(self._size)]
        self._open = [self.open_places(at) for at in range(self._size)]
        self._followers = {}
        self._ways = {}

    def add_probes(self, rows, own, variables):
        """Put in the trie of an atom with its own variables, where it has some of these."""
        shared = [place for place, variable in enumerate(variables) if variable in own]
        if len(shared) == 0:
            return
        trie = Trie(rows, tuple([own.index(variables[place]) for place in shared]))
        for at, place in enumerate(shared):
            self._probes[place].append((trie, shared[:at]))

    def places_beside(self, at):
        """Return the places of the earlier variables that stand beside one in an atom."""
        return sorted(set([place for _, places in self._probes[at] for place in places]))

    def open_places(self, at):
        """Return the places of the earlier variables that matter to some from a place on."""
        return sorted(set([place for near in self._near[at:] for place in near if place < at]))

    def start(self):
        """Return the list of the partial answers for no variables."""
        return [()] if self._possible else []

    def following(self, partial):
        """Return, ascending, the integers that follow a partial answer in longer ones."""
        at = len(partial)
        key = (at, entries_at(partial, self._near[at]))
        if key not in self._followers:
            rows = [trie.children(entries_at(partial, places)) for trie, places in self._probes[at]]
            self._followers[key] = common(rows)
        return self._followers[key]

    def longer(self, partial):
        """Return the partial answers that are one integer longer than one, ascending."""
        return [partial + (n,) for n in self.following(partial)]

    def ways(self, partial):
        """Return how many partial answers for all the variables begin with one."""
        at = len(partial)
        if at == self._size:
            return 1
        # Partial answers that agree where later variables look go on in the same ways.
        key = (at, entries_at(partial, self._open[at]))
        if key not in self._ways:
            self._ways[key] = sum([self.ways(one) for one in self.longer(partial)])
        return self._ways[key]


def count_partials(search):
    """Return how many partial answers for all its variables a search finds."""
    return sum([search.ways(partial) for partial in search.start()])


def list_partials(search, size):
    """Return the partial answers that a search finds for all its variables, a number of them."""
    found = search.start()
    for _ in range(size):
        # Those without a way on are left out at once: there may be far more of them.
        found = [row for partial in found for row in search.longer(partial) if search.ways(row) > 0]
    return found
