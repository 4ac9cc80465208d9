"""Reckoning with fractions: pairs (top, bottom) in lowest terms, with a bottom from 1 on."""

from math import gcd, lcm


def lowest(top, bottom):
    """The fraction top / bottom, for a bottom from 1 on."""
    shared = gcd(top, bottom)
    return (top // shared, bottom // shared)


def plus(one, other):
    """The sum of two fractions."""
    return lowest(one[0] * other[1] + other[0] * one[1], one[1] * other[1])


def minus(one, other):
    """The first fraction less the second one."""
    return plus(one, (-other[0], other[1]))


def times(one, other):
    """The product of two fractions."""
    return lowest(one[0] * other[0], one[1] * other[1])


def over(one, other):
    """The first fraction divided by the second one, which is above 0."""
    return lowest(one[0] * other[1], one[1] * other[0])


def above(one, other):
    """Whether the first fraction is greater than the second one."""
    return one[0] * other[1] > other[0] * one[1]


def summed(parts):
    """The sum of a list of fractions."""
    bottom = 1
    for part in parts:
        bottom = lcm(bottom, part[1])
    return lowest(sum([part[0] * (bottom // part[1]) for part in parts]), bottom)


def multiplied(parts):
    """The product of a list of fractions."""
    product = (1, 1)
    for part in parts:
        product = times(product, part)
    return product
