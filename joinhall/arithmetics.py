"""Arithmetics: what totals are added up in, polynomials of facts among them."""

from joinhall.catalogues import ascends
from joinhall.errors import KindError, WeightError

NUMBER_KINDS = ("count", "sum")
EXTREME_KINDS = ("least", "greatest")
WEIGHTLESS_KINDS = ("count", "any", "ways")
KINDS = ("count", "sum", "any", "least", "greatest", "ways")


def gathered(pairs):
    """Return the polynomial of pairs (facts, factor) in which facts may stand several times."""
    factors = {}
    for facts, factor in pairs:
        factors[facts] = factors.get(facts, 0) + factor
    return tuple(sorted(factors.items()))


def add_ways(p, q):
    """Return the sum of two polynomials."""
    return gathered([*p, *q])


def multiply_ways(p, q):
    """Return the product of two polynomials."""
    return gathered([(tuple(sorted(one + other)), n * m) for one, n in p for other, m in q])


def product_of(numbers):
    """Return the product of some integers, 1 of none."""
    product = 1
    for n in numbers:
        product = product * n
    return product


class Arithmetic:
    """One of the arithmetics, with the weights that facts have in it."""

    def __init__(self, kind, weights):
        if kind not in KINDS:
            raise KindError("there is no such arithmetic")
        if not ascends([fact for fact, _ in weights]):
            raise WeightError("the facts of the weights do not strictly ascend")
        self._kind = kind
        self._one = self.times([])
        self._weights = {}
        if kind not in WEIGHTLESS_KINDS:
            self._weights = {fact: number for fact, number in weights}

    def has_polynomials(self):
        """Tell whether the values are polynomials."""
        return self._kind == "ways"

    def plus(self, values):
        """Return the plus of some values, nought of none."""
        if self._kind == "ways":
            return gathered([pair for value in values for pair in value])
        if self._kind in NUMBER_KINDS:
            return sum(values)
        # None is the nought of the extremes, so it changes nothing.
        known = [value for value in values if value is not None]
        if self._kind == "any":
            return max(known, default=0)
        if self._kind == "least":
            return min(known, default=None)
        return max(known, default=None)

    def times(self, values):
        """Return the times of some values, one of none."""
        if self._kind == "ways":
            product = (((), 1),)
            for value in values:
                product = multiply_ways(product, value)
            return product
        if self._kind == "any":
            return min(values, default=1)
        if self._kind in EXTREME_KINDS:
            return None if None in values else sum(values)
        return product_of(values)

    def often(self, value, many):
        """Return the plus of a value as many times as told, at least once."""
        if self._kind == "ways":
            return tuple([(facts, factor * many) for facts, factor in value])
        return value * many if self._kind in NUMBER_KINDS else value

    def worth(self, facts):
        """Return the times of the weights of some facts."""
        if self._kind == "ways":
            return ((tuple(sorted(facts)), 1),)
        return self.times([self._weights.get(fact, self._one) for fact in facts])


def turned(p, weights, arithmetic):
    """Return what a polynomial comes to in an arithmetic, each fact standing for its weight."""
    scale = Arithmetic(arithmetic, weights)
    return scale.plus([scale.often(scale.worth(facts), factor) for facts, factor in p])
