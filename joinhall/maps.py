"""Maps between patterns, and the cases in which a pattern without a map has no answer."""

from joinhall.errors import PatternError
from joinhall.meaning import repeats_agree
from joinhall.partials import Partials, least_partial
from joinhall.patterns import arities_agree, check_pattern, occurring


def images_of(atom, atoms):
    """Return the tuples of variables of those atoms which an atom can become."""
    name, variables = atom
    found = [others for other, others in atoms if other == name and len(others) == len(variables)]
    return [others for others in found if repeats_agree(others, variables)]


def least_map(P, R):
    """Return the least map between patterns that are checked already, None if there is none."""
    if len(P[0]) != len(R[0]):
        return None
    # A map is an assignment of variables in place of integers. The head has one row to fit.
    relations = [([R[0]], P[0])]
    for atom in P[1]:
        relations.append((images_of(atom, R[1]), atom[1]))
    order = occurring(P[1])
    images = least_partial(Partials(relations, order))
    return None if images is None else tuple(zip(order, images))


def find_map(P, R):
    """Return the least map from a pattern to another one, None if there is none."""
    check_pattern(P)
    check_pattern(R)
    return least_map(P, R)


def renamed(variables, images):
    """Return what a tuple of variables becomes."""
    return tuple([images[variable] for variable in variables])


def check_map(P, R, pairs):
    """Tell whether a tuple of pairs of strings is a map from a pattern to another one."""
    check_pattern(P)
    check_pattern(R)
    if tuple([variable for variable, _ in pairs]) != occurring(P[1]):
        return False
    images = {variable: image for variable, image in pairs}
    if renamed(P[0], images) != R[0]:
        return False
    return all([(name, renamed(variables, images)) in R[1] for name, variables in P[1]])


def case_of(pattern):
    """Return the catalogue with a row of the numbers of the variables for each atom."""
    check_pattern(pattern)
    order = occurring(pattern[1])
    numbers = {variable: at for at, variable in enumerate(order)}
    columns = {}
    rows = {}
    for name, variables in pattern[1]:
        columns[name] = len(variables)
        rows.setdefault(name, []).append(renamed(variables, numbers))
    return tuple([(name, columns[name], tuple(sorted(set(rows[name])))) for name in sorted(rows)])


def with_empty_tables(catalogue, atoms):
    """Return a catalogue with an empty table more for each table name that only the atoms have."""
    known = [table[0] for table in catalogue]
    columns = {name: len(variables) for name, variables in atoms if name not in known}
    empty = [(name, columns[name], ()) for name in columns]
    return tuple(sorted([*catalogue, *empty]))


def contained(R, P):
    """Return ("map", the least map from P to R), or ("case", a catalogue that tells why R is
    not contained in P)."""
    check_pattern(R)
    check_pattern(P)
    if len(R[0]) != len(P[0]):
        raise PatternError("the heads have different lengths")
    if not arities_agree(R[1] + P[1]):
        raise PatternError("a table stands with different numbers of variables")
    pairs = least_map(P, R)
    if pairs is not None:
        return ("map", pairs)
    return ("case", with_empty_tables(case_of(R), P[1]))
