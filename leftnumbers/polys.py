"""Polynomials: lists of 2 to 9 whole numbers, the last not 0, with their worths, slopes and products."""

from leftnumbers.errors import NoPolynomial
from leftnumbers.fractions import fraction
from leftnumbers.primes import is_whole

FEWEST_NUMBERS = 2
MOST_NUMBERS = 9


def is_poly(thing):
    if not isinstance(thing, list) or not FEWEST_NUMBERS <= len(thing) <= MOST_NUMBERS:
        return False
    return all([is_whole(number) for number in thing]) and thing[-1] != 0


def refuse_poly(thing):
    if not is_poly(thing):
        raise NoPolynomial("a polynomial is a list of 2 to 9 whole numbers, the last not 0")


def worth_at(poly, part):
    # Top and bottom are brought to lowest terms once, not at each number.
    top = poly[-1]
    bottom = 1
    for number in reversed(poly[:-1]):
        bottom = bottom * part[1]
        top = top * part[0] + number * bottom
    return fraction(top, bottom)


def slope_of(poly):
    refuse_poly(poly)
    return [times * poly[times] for times in range(1, len(poly))]


def product_of(poly, other):
    refuse_poly(poly)
    refuse_poly(other)
    numbers = [0] * (len(poly) + len(other) - 1)
    for far, number in enumerate(poly):
        for farther, factor in enumerate(other):
            numbers[far + farther] = numbers[far + farther] + number * factor
    return numbers
