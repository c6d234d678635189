"""Polynomials seen from a stem, the first figures of whole numbers."""

from leftnumbers.lefts import number_of
from leftnumbers.primes import exponent, power_of


def begun_at(poly, number):
    """The numbers of the polynomial in z that comes where number + z is put for x."""
    numbers = list(poly)
    for first in range(len(poly) - 1):
        for k in range(len(poly) - 2, first - 1, -1):
            numbers[k] = numbers[k] + number * numbers[k + 1]
    return numbers


def seen_from(p, poly, stem):
    step = power_of(p, len(stem))
    power = 1
    numbers = []
    for number in begun_at(poly, number_of(p, stem)):
        numbers.append(number * power)
        power = power * step
    lift = min([exponent(p, number) for number in numbers if number != 0])
    divisor = power_of(p, lift)
    return (lift, [number // divisor for number in numbers])
