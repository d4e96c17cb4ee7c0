"""Trees of parts: bags of variables that hang together."""

from joinhall.catalogues import ascends
from joinhall.patterns import check_pattern, occurring


def is_tree(parts):
    """Tell whether pairs of a tuple of variables and an integer are a tree of parts."""
    for at, (bag, above) in enumerate(parts):
        lowest = -1 if at == 0 else 0
        if above < lowest or above >= at or len(bag) == 0 or not ascends(bag):
            return False
    return len(parts) > 0


def holds_atoms(parts, atoms):
    """Tell whether for each atom some bag has all its variables."""
    for _, variables in atoms:
        if not any([all([variable in bag for variable in variables]) for bag, _ in parts]):
            return False
    return True


def fresh_in(bag, above, parts):
    """Return those variables of a bag that the bag above it does not have, in their order."""
    if above == -1:
        return bag
    return tuple([variable for variable in bag if variable not in parts[above][0]])


def hangs_together(parts):
    """Tell whether for each variable all bags that have it, but one, have it above, too."""
    fresh = [variable for bag, above in parts for variable in fresh_in(bag, above, parts)]
    return len(set(fresh)) == len(fresh)


def check_parts(pattern, parts):
    """Tell whether parts are a tree of parts that is right for a pattern."""
    check_pattern(pattern)
    if not is_tree(parts):
        return False
    variables = occurring(pattern[1])
    if not all([variable in variables for bag, _ in parts for variable in bag]):
        return False
    return holds_atoms(parts, pattern[1]) and hangs_together(parts)


def width_of(parts):
    """Return the greatest number of variables of a bag."""
    return max([len(bag) for bag, _ in parts])


def order_of(parts):
    """Return the variables in the order of the parts."""
    order = ()
    for bag, _ in parts:
        order = order + tuple(sorted([variable for variable in bag if variable not in order]))
    return order
