"""What is known of sums, differences and opposites, and pairs that show that no more is known of a sum."""

from leftnumbers.lefts import end_of, known_of, left_number, refuse_unlike
from leftnumbers.near import cut_at, lengthened


def figures_between(one, least, end):
    # Cut first: the least place may lie far beyond the end, with nothing but noughts ahead of it.
    short = cut_at(one, end)
    return [0] * (short[1] - least) + list(short[2])


def plus(one, other):
    refuse_unlike(one, other)
    p = one[0]
    least = min(one[1], other[1])
    end = min(end_of(one), end_of(other))
    carried = 0
    figures = []
    for pair in zip(figures_between(one, least, end), figures_between(other, least, end)):
        total = pair[0] + pair[1] + carried
        figures.append(total % p)
        carried = total // p
    return left_number(p, least, figures)


def minus(one, other):
    return plus(one, opposite(other))


def opposite(one):
    if known_of(one) == 0:
        return one
    p = one[0]
    # The number and its opposite make p at the first figure; carried on, that fills up p - 1 at the others.
    return (p, one[1], (p - one[2][0],) + tuple([p - 1 - figure for figure in one[2][1:]]))


def known_beyond(one, end, figure):
    return one if end_of(one) > end else lengthened(one, figure)


def sum_doubt(one, other):
    refuse_unlike(one, other)
    end = min(end_of(one), end_of(other))
    longer = known_beyond(one, end, 0)
    farther = known_beyond(other, end, 0)
    # Just one of the two changes by 1 at the end, so the sums do too.
    if end_of(one) == end:
        return ((longer, farther), (lengthened(one, 1), farther))
    return ((longer, farther), (longer, lengthened(other, 1)))
