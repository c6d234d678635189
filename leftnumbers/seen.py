"""Fractions seen as left numbers, and their size without their prime."""

from leftnumbers.errors import NoFraction, NoPlace, NoPrime
from leftnumbers.fractions import exponent_of, is_fraction, without_prime
from leftnumbers.lefts import first_figures, left_number
from leftnumbers.primes import is_prime, is_whole


def seen_left(p, part, place):
    if not is_prime(p):
        raise NoPrime("a fraction is seen in powers of a prime from 2 to 97")
    if not is_whole(place):
        raise NoPlace("an end is a whole number")
    if not is_fraction(part):
        raise NoFraction("a fraction is a tuple of two whole numbers in lowest terms, the second from 1 on")
    # Nought has no exponent: its figures are 0 up to every end.
    if part[0] == 0 or exponent_of(p, part) >= place:
        return (p, place, ())
    least = exponent_of(p, part)
    rest = without_prime(p, part)
    return left_number(p, least, first_figures(p, rest[0], rest[1], place - least))


def size_of(p, part):
    rest = without_prime(p, part)
    return max(abs(rest[0]), rest[1])
