"""Left numbers: tuples (p, least, figures), the figures known from the least place up to the end."""

from leftnumbers.errors import NoFigures, NoPlace, NoPrime, Unlike
from leftnumbers.fractions import alike
from leftnumbers.primes import exponent, is_prime, is_whole, power_of


def are_figures(p, things):
    return all([is_whole(thing) and 0 <= thing < p for thing in things])


def left_number(p, least, figures):
    if not is_prime(p):
        raise NoPrime("a left number is written in powers of a prime from 2 to 97")
    if not is_whole(least):
        raise NoPlace("a place is a whole number")
    if not isinstance(figures, (list, tuple)) or not are_figures(p, figures):
        raise NoFigures("figures are a list or tuple of whole numbers from 0 to the prime less 1")
    noughts = 0
    while noughts < len(figures) and figures[noughts] == 0:
        noughts = noughts + 1
    return (p, least + noughts, tuple(figures[noughts:]))


def is_left(thing):
    if not isinstance(thing, tuple) or len(thing) != 3:
        return False
    if not is_prime(thing[0]) or not is_whole(thing[1]) or not isinstance(thing[2], tuple):
        return False
    if not are_figures(thing[0], thing[2]):
        return False
    return len(thing[2]) == 0 or thing[2][0] != 0


def refuse_unlike(one, other):
    if one[0] != other[0]:
        raise Unlike("two left numbers that are handed in together are of one prime")


def end_of(one):
    return one[1] + len(one[2])


def known_of(one):
    return len(one[2])


def number_of(p, figures):
    number = 0
    for figure in reversed(figures):
        number = number * p + figure
    return number


def unit_of(one):
    return number_of(one[0], one[2])


def back_of(p, number):
    # What p doesn't divide, taken p - 1 times as a factor, leaves 1: so p - 2 times is what brings it back to 1.
    return power_of(number % p, p - 2) % p


def first_figures(p, top, bottom, many):
    back = back_of(p, bottom)
    figures = []
    while len(figures) < many:
        # Rests are from 0 on, so tops below 0 need no other way.
        figure = top * back % p
        figures.append(figure)
        top = (top - figure * bottom) // p
    return figures


def of_whole(p, least, number, many):
    # 0 has no exponent, and its count may be too great to go from place to place.
    if number == 0:
        return left_number(p, least + many, [])
    noughts = min(exponent(p, number), many)
    rest = number // power_of(p, noughts)
    return left_number(p, least + noughts, first_figures(p, rest, 1, many - noughts))


def amount_of(one):
    p = one[0]
    least = one[1]
    # A bare one may lie where no power of p can be written out.
    if known_of(one) == 0:
        return (0, 1)
    if least >= 0:
        return (unit_of(one) * power_of(p, least), 1)
    # The first figure is not 0, so p doesn't divide the unit and these are lowest terms.
    return (unit_of(one), power_of(p, -least))


def begins_fraction(one, part):
    return alike(one[0], part, amount_of(one), end_of(one))
