"""What is known of products and of scaled ones, and pairs that show that no more is known of a product."""

from leftnumbers.errors import NoFraction
from leftnumbers.fractions import exponent_of, is_fraction, without_prime
from leftnumbers.lefts import first_figures, known_of, left_number, of_whole, refuse_unlike, unit_of
from leftnumbers.near import lengthened


def multiplied(one, other):
    refuse_unlike(one, other)
    many = min(known_of(one), known_of(other))
    return of_whole(one[0], one[1] + other[1], unit_of(one) * unit_of(other), many)


def scaled(one, part):
    if not is_fraction(part) or part[0] == 0:
        raise NoFraction("a left number is scaled by a fraction that is not nought")
    p = one[0]
    rest = without_prime(p, part)
    figures = first_figures(p, unit_of(one) * rest[0], rest[1], known_of(one))
    return left_number(p, one[1] + exponent_of(p, part), figures)


def product_doubt(one, other):
    refuse_unlike(one, other)
    # The one with fewer figures changes at its end; the other, whose first figure is not 0, hands that on.
    if known_of(one) <= known_of(other):
        # 1, not 0, so that a bare one is bare no longer.
        firm = lengthened(other, 1)
        return ((lengthened(one, 0), firm), (lengthened(one, 1), firm))
    return ((one, lengthened(other, 0)), (one, lengthened(other, 1)))
