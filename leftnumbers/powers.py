"""What is known of powers, and two left numbers that show that no more is known."""

from leftnumbers.errors import NoPower
from leftnumbers.lefts import known_of, of_whole, unit_of
from leftnumbers.near import lengthened
from leftnumbers.primes import exponent, is_whole, power_of

MOST_TIMES = 1000


def refuse_power(n):
    if not is_whole(n) or not 1 <= n <= MOST_TIMES:
        raise NoPower("a power is taken with a whole number from 1 to 1000")


def power_rest(number, times, divisor):
    # The rest is taken at each step, as the power of a thousand figures has a million.
    rest = 1
    for bit in range(times.bit_length() - 1, -1, -1):
        rest = rest * rest % divisor
        if (times >> bit) % 2 == 1:
            rest = rest * number % divisor
    return rest


def with_chosen_sign(one, n):
    # An odd number or its opposite begins with 1 and 0, and even powers of both are the same.
    if one[0] == 2 and known_of(one) == 1 and n % 2 == 0:
        return lengthened(one, 0)
    return one


def raised(one, n):
    refuse_power(n)
    p = one[0]
    if known_of(one) == 0:
        return (p, n * one[1], ())
    one = with_chosen_sign(one, n)
    many = known_of(one) + exponent(p, n)
    return of_whole(p, n * one[1], power_rest(unit_of(one), n, power_of(p, many)), many)


def power_doubt(one, n):
    refuse_power(n)
    one = with_chosen_sign(one, n)
    return (lengthened(one, 0), lengthened(one, 1))
