"""Facts: pairs of the name of a table and one of its rows."""

from joinhall.joins import join
from joinhall.meaning import entries_at
from joinhall.patterns import check_fit, occurring


def has_facts(catalogue, facts):
    """Tell whether all of some facts are in a catalogue."""
    known = set([(name, row) for name, _, rows in catalogue for row in rows])
    return all([fact in known for fact in facts])


def places_of(atoms, order):
    """Return for each atom the pair of its name and the places of its variables in an order."""
    return [(name, [order.index(variable) for variable in variables]) for name, variables in atoms]


def facts_at(row, uses):
    """Return, atom by atom, the facts that an assignment uses, as `places_of` tells them."""
    return [(name, entries_at(row, places)) for name, places in uses]


def explained(catalogue, pattern):
    """Return for each fitting assignment the pair of the answer that it gives and of the facts
    that it uses, atom by atom."""
    check_fit(catalogue, pattern)
    head, atoms = pattern
    order = occurring(atoms)
    rows, _ = join(catalogue, pattern, order)
    shown = [order.index(variable) for variable in head]
    uses = places_of(atoms, order)
    return [(entries_at(row, shown), facts_at(row, uses)) for row in rows]
