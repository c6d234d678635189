"""The tree of a polynomial's roots, and a root carried on to as many figures as wanted."""

from leftnumbers.errors import NoDepth, NoPlace, NoPrime, NoRoot
from leftnumbers.lefts import are_figures, back_of, number_of, of_whole
from leftnumbers.polys import refuse_poly, slope_of, worth_at
from leftnumbers.primes import is_prime, is_whole, power_of
from leftnumbers.stems import seen_from

DEEPEST = 12
LAST_END = 400


def refuse_prime_or_poly(p, poly):
    if not is_prime(p):
        raise NoPrime("roots are sought by a prime from 2 to 97")
    refuse_poly(poly)


def worth_at_whole(poly, number):
    return worth_at(poly, (number, 1))[0]


def word_of(p, seen, figure):
    if worth_at_whole(seen, figure) % p != 0:
        return "none"
    if worth_at_whole(slope_of(seen), figure) % p != 0:
        return "one"
    return "open"


def branches_of(p, poly, stem, depth):
    view = seen_from(p, poly, stem)
    told = []
    for figure in range(p):
        longer = stem + (figure,)
        word = word_of(p, view[1], figure)
        if word == "none":
            told.append((longer, word, view[0]))
        elif word == "one":
            told.append((longer, word, view[0] - len(stem)))
        elif len(longer) == depth:
            told.append((longer, word, seen_from(p, poly, longer)[0]))
        else:
            # Figure by figure, each with all that stands behind it: so the stems come in sorted order.
            told.extend(branches_of(p, poly, longer, depth))
    return told


def tree_of(p, poly, depth):
    refuse_prime_or_poly(p, poly)
    if not is_whole(depth) or not 1 <= depth <= DEEPEST:
        raise NoDepth("a depth is a whole number from 1 to 12")
    return branches_of(p, poly, (), depth)


def is_stem(p, thing):
    return isinstance(thing, tuple) and 1 <= len(thing) <= DEEPEST and are_figures(p, thing)


def has_one_root(p, poly, stem):
    # The way to this stem alone is gone, not the whole tree.
    words = [word_of(p, seen_from(p, poly, stem[:far])[1], stem[far]) for far in range(len(stem))]
    return words == ["open"] * (len(stem) - 1) + ["one"]


def carried_on(p, seen, figure, many):
    slope = slope_of(seen)
    root = figure
    back = back_of(p, worth_at_whole(slope, figure))
    known = 1
    while known < many:
        # The root, and what brings the slope there back to 1, are both right to twice as many figures each time.
        known = min(2 * known, many)
        power = power_of(p, known)
        root = (root - back * worth_at_whole(seen, root)) % power
        back = back * (2 - back * worth_at_whole(slope, root)) % power
    return root


def root_of(p, poly, stem, place):
    refuse_prime_or_poly(p, poly)
    if not is_stem(p, stem) or not has_one_root(p, poly, stem):
        raise NoRoot("a root is told of a stem of 1 to 12 figures with which just one root begins")
    if not is_whole(place) or not len(stem) <= place <= LAST_END:
        raise NoPlace("the end of a root is a whole number from the length of its stem to 400")
    ahead = stem[:-1]
    root = carried_on(p, seen_from(p, poly, ahead)[1], stem[-1], place - len(ahead))
    return of_whole(p, 0, number_of(p, ahead) + power_of(p, len(ahead)) * root, place)
