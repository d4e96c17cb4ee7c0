"""Patterns: a head of variables over atoms."""

from joinhall.catalogues import COLUMN_LIMIT, check_catalogue, table_of
from joinhall.errors import OrderError, PatternError, TooLarge
from joinhall.names import is_name

ATOM_LIMIT = 8
VARIABLE_LIMIT = 8


def occurring(atoms):
    """Return the variables of some atoms in the order in which they first occur."""
    found = []
    for atom in atoms:
        for variable in atom[1]:
            if variable not in found:
                found.append(variable)
    return tuple(found)


def is_atom(atom):
    """Tell whether something is a name with 1 to 4 variables."""
    if not isinstance(atom, tuple) or len(atom) != 2:
        return False
    name, variables = atom
    if not is_name(name) or not isinstance(variables, tuple):
        return False
    if len(variables) < 1 or len(variables) > COLUMN_LIMIT:
        return False
    return all([is_name(variable) for variable in variables])


def is_head(head, variables):
    """Tell whether something is a tuple of different ones of the variables."""
    if not isinstance(head, tuple) or not all([variable in variables for variable in head]):
        return False
    return len(set(head)) == len(head)


def arities_agree(atoms):
    """Tell whether all atoms with the same name have as many variables."""
    arities = {}
    for name, variables in atoms:
        if arities.setdefault(name, len(variables)) != len(variables):
            return False
    return True


def check_pattern(pattern):
    """Return None, or raise PatternError, then TooLarge."""
    if len(pattern) != 2:
        raise PatternError("a pattern is not a head and atoms")
    head, atoms = pattern
    if len(atoms) == 0:
        raise PatternError("there are no atoms")
    if not all([is_atom(atom) for atom in atoms]):
        raise PatternError("an atom is not a name with 1 to 4 variables")
    if not is_head(head, occurring(atoms)):
        raise PatternError("the head does not have different variables of the atoms")
    if not arities_agree(atoms):
        raise PatternError("a table stands with different numbers of variables")
    if len(atoms) > ATOM_LIMIT:
        raise TooLarge("there are too many atoms")
    if len(occurring(atoms)) > VARIABLE_LIMIT:
        raise TooLarge("there are too many variables")


def check_fit(catalogue, pattern):
    """Return None, or raise the errors of a catalogue, of a pattern, and of both together."""
    check_catalogue(catalogue)
    check_pattern(pattern)
    for name, variables in pattern[1]:
        if table_of(catalogue, name)[1] != len(variables):
            raise PatternError("a table has another number of columns than an atom has variables")


def variables_of(pattern):
    """Return the variables of a pattern in the order in which they first occur."""
    check_pattern(pattern)
    return occurring(pattern[1])


def is_full(pattern):
    """Tell whether all variables of a pattern are in its head."""
    check_pattern(pattern)
    # The head has different variables of the pattern, so their number decides.
    return len(pattern[0]) == len(occurring(pattern[1]))


def check_order(pattern, order):
    """Return None, or raise OrderError if an order does not have each variable once."""
    if sorted(order) != sorted(occurring(pattern[1])):
        raise OrderError("the order does not have each variable of the pattern once")
