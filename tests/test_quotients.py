import unittest

from leftnumbers.errors import LeftError, NoQuotient, Unlike
from leftnumbers.lefts import begins_fraction, is_left
from leftnumbers.near import begins_with, figure_at, parted_at
from leftnumbers.products import multiplied
from leftnumbers.quotients import divided, quotient_doubt
from things import (
    FAR, UNLIKE, amount, as_tuple, check_pairs, end, every_left, figures_of, great_figures, left_of, long_ones,
    parts_of, unit,
)

SMALL = every_left(2, range(-2, 3), 3) + every_left(3, range(-1, 2), 2) + every_left(7, (-1, 0), 1)
PAIRS = [(one, other) for one in SMALL for other in SMALL if one[0] == other[0] and other[2]]


def quotient_end(one, other):
    return one[1] - other[1] + min(len(one[2]), len(other[2]))


def quotient_figures(one, other):
    p = one[0]
    many = min(len(one[2]), len(other[2]))
    return figures_of(p, unit(one) * pow(unit(other), -1, p ** many), many)


class Divided(unittest.TestCase):
    def test_told_ones(self):
        self.assertEqual(divided((7, 0, (1,)), (7, 0, (2,))), (7, 0, (4,)))
        self.assertEqual(divided((7, 0, (1, 0, 0)), (7, 0, (2, 0, 0))), (7, 0, (4, 3, 3)))
        self.assertEqual(divided((7, -2, (6, 0)), (7, 3, (2, 1, 5, 5))), (7, -5, (3, 2)))
        self.assertEqual(divided((7, -2, (6, 0, 1, 1)), (7, 3, (2, 1))), (7, -5, (3, 2)))
        self.assertEqual(divided((2, 0, (1, 0, 0)), (2, 0, (1, 1, 0))), (2, 0, (1, 1, 0)))

    def test_a_bare_one_divided(self):
        self.assertEqual(divided((7, 3, ()), (7, -5, (4, 0, 3))), (7, 8, ()))
        self.assertEqual(divided((7, 3, ()), (7, 3, (1,))), (7, 0, ()))
        self.assertEqual(divided((7, -FAR, ()), (7, FAR, (1,))), (7, -2 * FAR, ()))

    def test_every_small_pair_against_fractions(self):
        for one, other in PAIRS:
            told = divided(one, other)
            self.assertEqual(told, left_of(one[0], amount(one) / amount(other), quotient_end(one, other)))
            self.assertTrue(is_left(told))

    def test_whatever_fractions_begin_with_them(self):
        for one, other in PAIRS[::11]:
            told = divided(one, other)
            for part in parts_of(one):
                for far in parts_of(other):
                    self.assertTrue(begins_fraction(told, as_tuple(part / far)))

    def test_no_more_is_known(self):
        for one, other in PAIRS[::7]:
            place = end(divided(one, other))
            quotients = [part / far for part in parts_of(one) for far in parts_of(other)]
            seen = [left_of(one[0], quotient, place + 1) for quotient in quotients]
            self.assertGreater(len({figure_at(longer, place) for longer in seen}), 1)

    def test_of_one_by_itself(self):
        for one in SMALL + long_ones(97) + [(5, least, (3, 0, 4)) for least in (FAR, -FAR)]:
            if one[2]:
                self.assertEqual(divided(one, one), (one[0], 0, (1,) + (0,) * (len(one[2]) - 1)))

    def test_divided_and_multiplied_again(self):
        for one, other in PAIRS:
            again = multiplied(divided(one, other), other)
            self.assertIs(begins_with(one, again), True)
            if len(one[2]) <= len(other[2]):
                self.assertEqual(again, one)

    def test_far_places(self):
        for least in (-FAR, 0, FAR):
            for far in (-FAR, 1, FAR):
                self.assertEqual(divided((5, least, (4, 3)), (5, far, (4, 4, 4))), (5, least - far, (1, 1)))

    def test_long_ones(self):
        for p in (2, 3, 97):
            for one in long_ones(p):
                for other in long_ones(p)[:-1]:
                    figures = quotient_figures(one, other)
                    self.assertEqual(divided(one, other), (p, one[1] - other[1], figures))

    def test_longer_ones_have_longer_quotients_that_begin_alike(self):
        for p in (2, 7):
            first = (p, -3, great_figures(p, 12, 1))
            second = (p, -1, great_figures(p, 12, 2))
            whole = divided(first, second)
            for many in range(12):
                for more in range(1, 12):
                    short = divided((p, -3, first[2][:many]), (p, -1, second[2][:more]))
                    self.assertIs(begins_with(whole, short), True)
            for least in (-6, -5, -4):
                self.assertIs(begins_with(whole, divided((p, least, ()), second)), True)

    def test_bare_divisors(self):
        for one in ((7, 0, (3, 1)), (7, 2, ()), (7, -FAR, (1,))):
            for least in (-FAR, -1, 0, 3, FAR):
                with self.assertRaises(NoQuotient):
                    divided(one, (7, least, ()))
                with self.assertRaises(LeftError):
                    divided(one, (7, least, ()))

    def test_unlike_primes_go_first(self):
        for one, other in UNLIKE + (((7, 0, (3, 1)), (5, 0, ())), ((2, 1, ()), (3, 1, ()))):
            for pair in ((one, other), (other, one)):
                with self.assertRaises(Unlike):
                    divided(*pair)


class QuotientDoubt(unittest.TestCase):
    def check(self, one, other):
        told = quotient_doubt(one, other)
        check_pairs(self, told, (one, other))
        quotients = [divided(*pair) for pair in told]
        self.assertEqual(parted_at(*quotients), end(divided(one, other)))
        self.assertEqual(quotient_doubt(one, other), told)

    def test_every_small_pair(self):
        for one, other in PAIRS:
            self.check(one, other)

    def test_bare_dividends(self):
        for p in (2, 7, 97):
            for least in (-FAR, -1, 0, 2, FAR):
                for far in (-FAR, 0, 1, FAR):
                    for figures in ((1,), (1, 0), (p - 1, p - 1, 0)):
                        self.check((p, least, ()), (p, far, figures))

    def test_unlike_counts_of_figures(self):
        for p in (2, 3, 97):
            for many in range(6):
                for more in range(1, 6):
                    first = (p, -FAR, great_figures(p, 6, 1)[:many])
                    self.check(first, (p, FAR, great_figures(p, 6, 2)[:more]))

    def test_long_ones(self):
        for p in (2, 97):
            for one in long_ones(p):
                for other in long_ones(p)[:-1]:
                    self.check(one, other)

    def test_of_one_by_itself(self):
        for one in SMALL:
            if one[2]:
                self.check(one, one)

    def test_bare_divisors(self):
        for one in ((7, 0, (3, 1)), (7, 2, ()), (7, -FAR, (1,))):
            for least in (-FAR, -1, 0, 3, FAR):
                with self.assertRaises(NoQuotient):
                    quotient_doubt(one, (7, least, ()))

    def test_unlike_primes_go_first(self):
        for one, other in UNLIKE + (((7, 0, (3, 1)), (5, 0, ())), ((2, 1, ()), (3, 1, ()))):
            for pair in ((one, other), (other, one)):
                with self.assertRaises(Unlike):
                    quotient_doubt(*pair)


class AskedAgain(unittest.TestCase):
    def test_the_same_is_answered_alike(self):
        for asked in range(3):
            self.assertEqual(divided((7, 0, (1, 0, 0)), (7, 0, (2, 0, 0))), (7, 0, (4, 3, 3)))


if __name__ == "__main__":
    unittest.main()
