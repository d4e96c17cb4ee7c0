"""Covers and packings of variables, and what a cover says about numbers of partial answers."""

from math import lcm

from joinhall.catalogues import table_of
from joinhall.errors import CoverError, VariableError
from joinhall.patterns import check_fit, check_order, check_pattern, occurring
from joinhall.ratios import compare, total
from joinhall.simplex import greatest_sum

NOUGHT = (0, 1)
ONE = (1, 1)
POWER_LIMIT = 64


def check_chosen(pattern, chosen):
    """Return None, or raise the errors of a pattern and of variables chosen from it."""
    check_pattern(pattern)
    variables = occurring(pattern[1])
    if len(set(chosen)) != len(chosen):
        raise VariableError("a variable is chosen twice")
    if not all([variable in variables for variable in chosen]):
        raise VariableError("a variable is chosen that the pattern does not have")


def best_cover(pattern, chosen):
    """Return a cover and a packing of chosen variables with equal sums."""
    check_chosen(pattern, chosen)
    groups = []
    for _, variables in pattern[1]:
        groups.append([at for at, variable in enumerate(chosen) if variable in variables])
    # The prices of a best packing are a best cover.
    packing, cover = greatest_sum(groups, len(chosen))
    return (tuple(cover), tuple(packing))


def none_below(fractions):
    """Tell whether all fractions are at least 0."""
    return all([compare(one, NOUGHT) >= 0 for one in fractions])


def check_cover(pattern, chosen, cover):
    """Tell whether a tuple of fractions is a cover of chosen variables."""
    check_chosen(pattern, chosen)
    if len(cover) != len(pattern[1]) or not none_below(cover):
        return False
    for variable in chosen:
        shares = [share for share, atom in zip(cover, pattern[1]) if variable in atom[1]]
        if compare(total(shares), ONE) < 0:
            return False
    return True


def check_packing(pattern, chosen, packing):
    """Tell whether a tuple of fractions is a packing of chosen variables."""
    check_chosen(pattern, chosen)
    if len(packing) != len(chosen) or not none_below(packing):
        return False
    for _, variables in pattern[1]:
        shares = [share for share, variable in zip(packing, chosen) if variable in variables]
        if compare(total(shares), ONE) > 0:
            return False
    return True


def power(base, exponent):
    """Return an integer to the power of one from 0 on."""
    found = 1
    for _ in range(exponent):
        found = found * base
    return found


def common_denominator(fractions):
    """Return the least common multiple of the denominators of fractions."""
    found = 1
    for _, denominator in fractions:
        found = lcm(found, denominator)
    return found


def bound_of(catalogue, pattern, cover):
    """Return the bound of a cover in a catalogue."""
    check_fit(catalogue, pattern)
    if len(cover) != len(pattern[1]):
        raise CoverError("there is not a fraction for each atom")
    if not none_below(cover):
        raise CoverError("a fraction is negative")
    q = common_denominator(cover)
    exponents = [q * numerator // denominator for numerator, denominator in cover]
    if any([exponent > POWER_LIMIT for exponent in exponents]):
        raise CoverError("a power is too high")
    found = 1
    for exponent, atom in zip(exponents, pattern[1]):
        found = found * power(len(table_of(catalogue, atom[0])[2]), exponent)
    return (q, found)


def within(number, bound):
    """Tell whether a number from 0 on keeps a bound."""
    q, limit = bound
    # The powers of 0 and 1 are these themselves.
    if number < 2:
        return number <= limit
    reached = 1
    steps = 0
    # The power may be far too large to be worked out, so this ends once it is above.
    while steps < q and reached <= limit:
        reached = reached * number
        steps += 1
    return reached <= limit


def bounds_along(catalogue, pattern, order):
    """Return best covers, their packings and bounds for the first variables of an order."""
    check_fit(catalogue, pattern)
    check_order(pattern, order)
    found = []
    for k in range(len(order)):
        cover, packing = best_cover(pattern, order[:k + 1])
        found.append((cover, packing, bound_of(catalogue, pattern, cover)))
    return tuple(found)
