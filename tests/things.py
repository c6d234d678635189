"""Things that several tests hand in."""

from decimal import Decimal
from fractions import Fraction

from leftnumbers.lefts import is_left
from leftnumbers.near import begins_with

FAR = 10 ** 30
UNLIKE = (((7, 0, ()), (5, 0, ())), ((2, 0, (1,)), (3, 0, (1,))), ((2, FAR, (1, 1)), (97, -FAR, (5,))))


class Odd:
    """Neither compares nor shows itself: nothing may be asked of it but its kind."""

    __hash__ = None

    def refuse(self, *others):
        raise RuntimeError("nothing is to be asked of this thing")

    __eq__ = __ne__ = __lt__ = __le__ = __gt__ = __ge__ = refuse
    __bool__ = __len__ = __iter__ = __repr__ = __str__ = __int__ = __index__ = refuse


def no_whole_numbers():
    """Things of other kinds, made anew for each asker; some are equal to whole numbers."""
    return [
        True, False, None, 2.0, 0.5, 1.0, 0.0, float("nan"), float("inf"), 3 + 0j, "2", "", "7", b"2",
        [], [2], (), (2,), {}, {2: 2}, {2}, frozenset(), range(2), Fraction(2, 1), Fraction(3, 2), Decimal(2),
        int, len, object(), Odd(), NotImplemented, Ellipsis,
    ]


def great(figures, seed):
    """A whole number of just so many figures, the same for the same seed."""
    number = seed + 1
    text = ""
    while len(text) < figures:
        number = (number * 6364136223846793005 + 1442695040888963407) % 18446744073709551616
        text += str(number // 65536)
    return int("1" + text[1:figures])


def great_figures(p, many, seed):
    """So many figures of the prime p, the first and the last not 0, the same for the same seed."""
    number = great(2 * many + 10, seed)
    figures = []
    for place in range(many):
        figures.append(number % p)
        number //= p
    figures[0] = figures[0] or 1
    figures[-1] = figures[-1] or 1
    return tuple(figures)


def every_left(p, leasts, most):
    """Every left number of p with one of these least places and at most so many known figures."""
    rows = [()]
    for many in range(most):
        rows += [row + (figure,) for row in rows if len(row) == many for figure in range(p)]
    return [(p, least, row) for least in leasts for row in rows if not row or row[0] != 0]


def long_ones(p):
    """Up to 1,500 figures, some with noughts and greatest figures in long rows, at one place and near it."""
    rows = [great_figures(p, 1500, p), great_figures(p, 1500, p + 1), great_figures(p, 700, p + 2),
            (p - 1,) * 1500, (1,) + (0,) * 1499, (1,) + (p - 1,) * 800, ()]
    return [(p, least, row) for least, row in zip((0, 3, 700, 0, 1, -100, 900), rows)]


def end(one):
    return one[1] + len(one[2])


def figures_of(p, number, many):
    """The first so many figures of a whole number, below 0 too."""
    figures = []
    for place in range(many):
        figures.append(number % p)
        number //= p
    return tuple(figures)


def unit(one):
    return sum(figure * one[0] ** k for k, figure in enumerate(one[2]))


def amount(one):
    p, least, figures = one
    return sum((Fraction(p) ** (least + k) * figure for k, figure in enumerate(figures)), Fraction(0))


def times_in(p, part):
    """How often p divides a fraction that isn't nought."""
    times = 0
    top, bottom = part.numerator, part.denominator
    while top % p == 0:
        top //= p
        times += 1
    while bottom % p == 0:
        bottom //= p
        times -= 1
    return times


def begins(part, one):
    """Whether a fraction begins with a left number, straight from the document's words."""
    rest = part - amount(one)
    return rest == 0 or times_in(one[0], rest) >= one[1] + len(one[2])


def as_tuple(part):
    return (part.numerator, part.denominator)


def no_fractions():
    """Things that are no fractions as the document tells them, made anew for each asker."""
    things = no_whole_numbers()
    return (
        things + [(thing, 1) for thing in things] + [(1, thing) for thing in things]
        + [(2, 4), (-3, 9), (0, 2), (0, 0), (1, 0), (1, -2), (-1, -1), (0, -1), (1, 2, 1), (3,), [1, 2], [3, 1]]
        + [0, 1, -3, "1/2", "(1, 2)", ((1, 2),), ((1, 2), 1)]
    )


def no_polys():
    """Things that are no polynomials, made anew for each asker."""
    things = no_whole_numbers()
    return (
        things + [[thing, 1] for thing in things] + [[0, 1, thing] for thing in things]
        + [[1], [0, 0], [1, 0], [1, 2, 0], [1] * 10, [0] * 9, [1] * 8 + [0], (1, 2), (0, 1, 1), "12", {0: 1, 1: 1}]
        + [0, 1, -3, 10 ** 60, [[1, 2]], [[1], [2]], ([1, 2],)]
    )


def worth(poly, x):
    return sum(number * x ** k for k, number in enumerate(poly))


def numbers_behind(p, stem):
    """Some whole numbers that begin with a stem, on either side of 0."""
    first = sum(figure * p ** k for k, figure in enumerate(stem))
    shifts = [0, 1, -1, 2, -2, p - 1, p, -p, p * p + 1, -p ** 3, 5 * p ** 7 + 1, great(40, p), -great(41, p)]
    return [first + p ** len(stem) * shift for shift in sorted(set(shifts))]


def left_of(p, part, end):
    """The one left number with that end with which a fraction begins."""
    times = times_in(p, part) if part else end
    if times >= end:
        return (p, end, ())
    unit = part / Fraction(p) ** times
    power = p ** (end - times)
    number = unit.numerator * pow(unit.denominator, -1, power) % power
    return (p, times, figures_of(p, number, end - times))


def parts_of(one):
    """Some fractions that begin with a left number: those that lie at it, and on either side."""
    p, least, figures = one
    power = Fraction(p) ** (least + len(figures))
    shifts = [Fraction(0), Fraction(1), Fraction(-1), Fraction(p - 1), Fraction(p), Fraction(1, p + 1),
              Fraction(-3 * p, 2 * p + 1), Fraction(p * p + 1, p * p - 1)]
    return [amount(one) + power * shift for shift in shifts]


def check_begun(case, longer, short):
    """What a doubt tells begins with what was handed in, and is at most four figures longer."""
    case.assertIs(is_left(longer), True)
    case.assertIs(begins_with(longer, short), True)
    case.assertLessEqual(end(longer), end(short) + 4)


def check_pairs(case, told, handed):
    """A doubt of two left numbers is two pairs, in the order in which the two were handed in."""
    case.assertEqual([type(told)] + [type(pair) for pair in told], [tuple] * 3)
    case.assertEqual([len(told)] + [len(pair) for pair in told], [2] * 3)
    for pair in told:
        for longer, short in zip(pair, handed):
            check_begun(case, longer, short)
