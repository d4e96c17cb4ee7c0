"""Joins along an order of the variables, which tell how much was visited."""

from itertools import permutations

from joinhall.errors import TooLarge
from joinhall.meaning import entries_at
from joinhall.partials import Partials, count_partials, relations_of, search_for
from joinhall.patterns import check_fit, check_order, occurring

VISIT_LIMIT = 20000
ORDERS_VARIABLE_LIMIT = 5


def visit(search, partials):
    """Return the partial answers, ascending, that are one integer longer than some."""
    found = []
    for partial in partials:
        found.extend(search.longer(partial))
        if len(found) > VISIT_LIMIT:
            raise TooLarge("there are too many partial answers")
    return found


def join(catalogue, pattern, order):
    """Return all fitting assignments along an order, and how many partial answers for the
    first variables there are, for each number of them."""
    check_fit(catalogue, pattern)
    check_order(pattern, order)
    search = Partials(relations_of(catalogue, pattern), order)
    rows = search.start()
    visits = []
    for _ in order:
        rows = visit(search, rows)
        visits.append(len(rows))
    return (tuple(rows), tuple(visits))


def answers(catalogue, pattern):
    """Return all answers of a pattern in a catalogue, ascending, each once."""
    check_fit(catalogue, pattern)
    order = occurring(pattern[1])
    rows, _ = join(catalogue, pattern, order)
    places = [order.index(variable) for variable in pattern[0]]
    return tuple(sorted(set([entries_at(row, places) for row in rows])))


def groups_of(variables):
    """Return all ascending tuples of some of the variables, which ascend, but the empty one."""
    groups = [()]
    for variable in variables:
        groups = groups + [group + (variable,) for group in groups]
    return groups[1:]


def counts_by_group(catalogue, pattern, variables):
    """Return the number of partial answers for each group of the variables."""
    relations = relations_of(catalogue, pattern)
    counts = {}
    for group in groups_of(variables):
        counts[group] = count_partials(search_for(relations, group))
        if counts[group] > VISIT_LIMIT:
            raise TooLarge("there are too many partial answers")
    return counts


def orders_by_visits(catalogue, pattern):
    """Return the order with the least sum of visits, of several the least one, and its visits."""
    check_fit(catalogue, pattern)
    variables = sorted(occurring(pattern[1]))
    if len(variables) > ORDERS_VARIABLE_LIMIT:
        raise TooLarge("there are too many variables")
    # What is visited depends on which variables come first, not on their order.
    counts = counts_by_group(catalogue, pattern, variables)
    ranks = []
    for order in permutations(variables):
        visits = [counts[tuple(sorted(order[:k + 1]))] for k in range(len(order))]
        ranks.append((sum(visits), order, tuple(visits)))
    _, best, visits = min(ranks)
    return (best, visits)
