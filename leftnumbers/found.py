"""Fractions found again from their figures, or a paper that shows that there is none."""

from leftnumbers.errors import NoSize, TooFew
from leftnumbers.fractions import fraction
from leftnumbers.lefts import known_of, unit_of
from leftnumbers.primes import is_whole, power_of


def paper_of(power, unit, size):
    # Two neighbouring rows of this division keep to all that a paper asks, but for the bounds by the size; so it
    # goes on until these hold for the rows' first numbers too.
    above = (power, 0)
    below = (unit, 1)
    while below[0] > size:
        times = above[0] // below[0]
        rest = (above[0] - times * below[0], above[1] - times * below[1])
        above = below
        below = rest
    return (above, below)


def times_power(p, top, bottom, times):
    if times >= 0:
        return fraction(top * power_of(p, times), bottom)
    return fraction(top, bottom * power_of(p, -times))


def found_again(one, size):
    if not is_whole(size) or size < 1:
        raise NoSize("a size is a whole number from 1 on")
    p = one[0]
    power = power_of(p, known_of(one))
    if 2 * size * size >= power:
        raise TooFew("two times the square of the size must be less than the prime to the power of the known figures")
    paper = paper_of(power, unit_of(one), size)
    # Any two pairs within the size are in one proportion, as two times its square is less than the power: so a
    # fraction within the size is the lower row, or there is none.
    top = paper[1][0]
    bottom = paper[1][1]
    if abs(bottom) > size or bottom % p == 0:
        return ("none", paper)
    return ("fraction", times_power(p, top, bottom, one[1]))
