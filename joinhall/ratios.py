"""Fractions: pairs (numerator, denominator) of integers in lowest terms."""

from math import gcd

from joinhall.errors import ZeroDenominator


def fraction(numerator, denominator):
    """Return the fraction of two integers."""
    if denominator == 0:
        raise ZeroDenominator("the denominator is 0")
    divisor = gcd(numerator, denominator)
    if denominator < 0:
        divisor = -divisor
    return (numerator // divisor, denominator // divisor)


def plus(a, b):
    """Return the sum of two fractions."""
    return fraction(a[0] * b[1] + b[0] * a[1], a[1] * b[1])


def minus(a, b):
    """Return the difference of two fractions."""
    return fraction(a[0] * b[1] - b[0] * a[1], a[1] * b[1])


def times(a, b):
    """Return the product of two fractions."""
    return fraction(a[0] * b[0], a[1] * b[1])


def compare(a, b):
    """Return -1, 0 or 1 if a is less than, equal to or greater than b."""
    # Denominators are above 0, so multiplying by them keeps the order.
    left = a[0] * b[1]
    right = b[0] * a[1]
    if left < right:
        return -1
    if left > right:
        return 1
    return 0


def total(items):
    """Return the sum of a tuple of fractions, 0 for none."""
    whole = (0, 1)
    for item in items:
        whole = plus(whole, item)
    return whole
