"""What is known of quotients, and pairs that show that no more is known."""

from leftnumbers.errors import NoQuotient
from leftnumbers.lefts import first_figures, known_of, left_number, refuse_unlike, unit_of
from leftnumbers.products import product_doubt


def refuse_divisor(one, other):
    refuse_unlike(one, other)
    if known_of(other) == 0:
        raise NoQuotient("nothing is divided by a bare left number")


def divided(one, other):
    refuse_divisor(one, other)
    many = min(known_of(one), known_of(other))
    return left_number(one[0], one[1] - other[1], first_figures(one[0], unit_of(one), unit_of(other), many))


def quotient_doubt(one, other):
    refuse_divisor(one, other)
    # A dividend or a divisor that changes at its end makes the quotient change just where the product does,
    # as far from the least place.
    return product_doubt(one, other)
