"""What a pattern means: its answers, worked out atom by atom."""

from joinhall.catalogues import table_of
from joinhall.patterns import check_fit, occurring


def entries_at(row, places):
    """Return the tuple of the entries of a row at some places."""
    return tuple([row[place] for place in places])


def repeats_agree(row, variables):
    """Tell whether a row has equal entries at the places of each variable."""
    return all([entry == row[variables.index(name)] for name, entry in zip(variables, row)])


def rows_by_entries(rows, variables, shared):
    """Return the rows that an atom may take, by their integers for the shared variables."""
    places = [variables.index(name) for name in shared]
    found = {}
    for row in rows:
        if repeats_agree(row, variables):
            found.setdefault(entries_at(row, places), []).append(row)
    return found


def joined(partials, known, rows, variables, kept):
    """Return, ascending, what the tuples for the known variables and the rows of an atom
    give the kept variables together."""
    shared = [name for name in known if name in variables]
    fitting = rows_by_entries(rows, variables, shared)
    shared_places = [known.index(name) for name in shared]
    kept_places = [(known + variables).index(name) for name in kept]
    found = {}
    for partial in partials:
        for row in fitting.get(entries_at(partial, shared_places), []):
            found[entries_at(partial + row, kept_places)] = True
    return sorted(found)


def next_place(known, atoms):
    """Return the place of an atom that brings few new integers: if there is one, of those
    with a known variable, and of these one with the fewest variables that are not known."""
    ranks = []
    for at, (_, variables) in enumerate(atoms):
        fresh = [name for name in variables if name not in known]
        ranks.append((len(fresh) == len(variables), len(fresh), at))
    return min(ranks)[2]


def still_needed(head, found, rest):
    """Return those of the variables found which the head or the rest of the atoms have,
    those of the head first, in its order."""
    later = [name for name in occurring(rest) if name not in head]
    return tuple([name for name in [*head, *later] if name in found])


def plain_answers(catalogue, pattern):
    """Return all answers of a pattern in a catalogue, ascending, each once."""
    check_fit(catalogue, pattern)
    head, atoms = pattern
    rest = list(atoms)
    known = ()
    partials = [()]
    while len(rest) > 0:
        # The answers do not depend on the order of the atoms, but the work does.
        name, variables = rest.pop(next_place(known, rest))
        # What no later atom and not the head has is left out at once, so that
        # tuples that differ only in it are not carried on.
        kept = still_needed(head, known + variables, rest)
        partials = joined(partials, known, table_of(catalogue, name)[2], variables, kept)
        known = kept
    return tuple(partials)
