"""Cores: patterns with as few atoms as there can be."""

from itertools import combinations

from joinhall.maps import contained, least_map
from joinhall.patterns import check_pattern


def is_enough(pattern, atoms):
    """Tell whether some of the atoms of a pattern make a pattern with its head that is
    contained in it. It is always contained in them, for they ask for less."""
    # A map keeps the head as it is, so there is none if the atoms do not have all of it.
    return least_map(pattern, (pattern[0], atoms)) is not None


def core_of(pattern):
    """Return the pattern of the fewest atoms that are enough, of several that of the least
    tuple of their places."""
    check_pattern(pattern)
    head, atoms = pattern
    for many in range(1, len(atoms)):
        for places in combinations(range(len(atoms)), many):
            some = tuple([atoms[place] for place in places])
            if is_enough(pattern, some):
                return (head, some)
    return pattern


def alike(P, R):
    """Tell whether two patterns are contained in each other."""
    return contained(P, R)[0] == "map" and contained(R, P)[0] == "map"
