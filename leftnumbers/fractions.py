"""Fractions: tuples (top, bottom) in lowest terms, the bottom from 1 on."""

from leftnumbers.errors import NoFraction
from leftnumbers.primes import exponent, is_whole, power_of


def common_divisor(one, other):
    while other != 0:
        rest = one % other
        one = other
        other = rest
    return one


def fraction(top, bottom=1):
    if not is_whole(top) or not is_whole(bottom) or bottom == 0:
        raise NoFraction("a fraction is made of two whole numbers, the second not 0")
    common = common_divisor(abs(top), abs(bottom))
    # The sign goes over to the top with the same division.
    if bottom < 0:
        common = -common
    return (top // common, bottom // common)


def is_fraction(thing):
    if not isinstance(thing, tuple) or len(thing) != 2:
        return False
    if not is_whole(thing[0]) or not is_whole(thing[1]):
        return False
    return thing[1] >= 1 and common_divisor(abs(thing[0]), thing[1]) == 1


def plus_fraction(one, other):
    return fraction(one[0] * other[1] + other[0] * one[1], one[1] * other[1])


def minus_fraction(one, other):
    return fraction(one[0] * other[1] - other[0] * one[1], one[1] * other[1])


def times_fraction(one, other):
    return fraction(one[0] * other[0], one[1] * other[1])


def over_fraction(one, other):
    # Where the other is nought the new bottom is 0, and fraction refuses it.
    return fraction(one[0] * other[1], one[1] * other[0])


def exponent_of(p, one):
    return exponent(p, one[0]) - exponent(p, one[1])


def without_prime(p, one):
    return (one[0] // power_of(p, exponent(p, one[0])), one[1] // power_of(p, exponent(p, one[1])))


def alike(p, one, other, e):
    # The exponents are compared, not p to the power e: e may have sixty figures. And the difference needs no
    # lowest terms for its exponent, so that left numbers with thousands of places are quickly held against it.
    top = one[0] * other[1] - other[0] * one[1]
    return top == 0 or exponent(p, top) - exponent(p, one[1]) - exponent(p, other[1]) >= e
