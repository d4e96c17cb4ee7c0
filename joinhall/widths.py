"""Trees of parts for a pattern: from its atoms, and with the least width."""

from joinhall.parts import check_parts, width_of
from joinhall.patterns import check_pattern, occurring


def bags_of(atoms):
    """Return the different sets of variables of atoms, as ascending tuples."""
    bags = []
    for _, variables in atoms:
        bag = tuple(sorted(set(variables)))
        if bag not in bags:
            bags.append(bag)
    return bags


def shared_count(one, other):
    """Return how many variables two bags have in common."""
    return len([variable for variable in one if variable in other])


def heaviest_tree(bags):
    """Return a tree of all the bags in which bags have as much in common with those above
    them as there can be, all in all."""
    parts = [(bags[0], -1)]
    rest = bags[1:]
    while len(rest) > 0:
        ranks = []
        for at, (above, _) in enumerate(parts):
            for place, bag in enumerate(rest):
                ranks.append((shared_count(above, bag), at, place))
        _, at, place = max(ranks)
        parts.append((rest.pop(place), at))
    return tuple(parts)


def atom_tree(pattern):
    """Return a right tree of parts whose bags are the variables of atoms, None if there is none."""
    check_pattern(pattern)
    # If any tree of these bags is right, then each heaviest one is.
    parts = heaviest_tree(bags_of(pattern[1]))
    return parts if check_parts(pattern, parts) else None


def links_of(atoms):
    """Return for each variable those that stand beside it in some atom."""
    links = {}
    for variable in occurring(atoms):
        beside = occurring([atom for atom in atoms if variable in atom[1]])
        links[variable] = [other for other in beside if other != variable]
    return links


def bag_of(links, gone, variable):
    """Return the bag that a variable has if it is taken out next behind those that are gone:
    itself and the others, not gone, to which a way leads from it through such that are."""
    found = [variable]
    ways = [variable]
    while len(ways) > 0:
        here = ways.pop()
        for other in links[here]:
            if other not in found:
                found.append(other)
                if other in gone:
                    ways.append(other)
    return tuple(sorted([other for other in found if other not in gone]))


def with_one_more(links, best, grown):
    """Return, for each set of variables with one more than those in `best`, the least pair
    (cost, order) of all orders of taking them out."""
    found = {}
    for gone, (cost, order) in best.items():
        for variable in links:
            if variable not in gone:
                key = tuple(sorted(gone + (variable,)))
                rank = (grown(cost, bag_of(links, gone, variable)), order + (variable,))
                found[key] = min(rank, found.get(key, rank))
    return found


def best_order(links, grown):
    """Return an order of taking out all variables that has the least cost, where `grown` tells
    what a cost is with one bag more."""
    # Which bags come later depends on what is gone, but not on the order in which it went.
    best = {(): (0, ())}
    for _ in links:
        best = with_one_more(links, best, grown)
    return best[tuple(sorted(links))][1]


def put_bag(parts, homes, bag, variable, later):
    """Put in the bag of a variable under the part of that one of its others which was taken
    out next, and note the number of the part that has it now."""
    beside = [other for other in later if other in bag]
    above = min(0, len(parts) - 1)
    if len(beside) > 0:
        above = homes[beside[0]]
    if len(beside) > 0 and len(parts[above][0]) == len(beside):
        # The part above has just the others, so it can take in the variable itself.
        homes[variable] = above
        parts[above] = (bag, parts[above][1])
    else:
        homes[variable] = len(parts)
        parts.append((bag, above))


def parts_along(links, order):
    """Return a right tree of parts with the bags that an order of taking out makes."""
    parts = []
    homes = {}
    # The one taken out last comes first, so that the parts above are there already.
    for at in reversed(range(len(order))):
        bag = bag_of(links, order[:at], order[at])
        put_bag(parts, homes, bag, order[at], order[at + 1:])
    return tuple(parts)


def wider(width, bag):
    """Return the greater one of a width and the number of variables of a bag."""
    return max(width, len(bag))


def least_parts(pattern):
    """Return a right tree of parts with the least width."""
    check_pattern(pattern)
    links = links_of(pattern[1])
    return parts_along(links, best_order(links, wider))


def least_width(pattern):
    """Return the least width of all right trees of parts."""
    return width_of(least_parts(pattern))
