import unittest
from fractions import Fraction

from leftnumbers.errors import LeftError, NoFraction, Unlike
from leftnumbers.lefts import begins_fraction, is_left
from leftnumbers.near import begins_with, figure_at, parted_at
from leftnumbers.products import multiplied, product_doubt, scaled
from things import (
    FAR, UNLIKE, amount, as_tuple, check_pairs, end, every_left, figures_of, great, great_figures, left_of, long_ones,
    no_fractions, parts_of, times_in, unit,
)

SMALL = every_left(2, range(-2, 3), 3) + every_left(3, range(-1, 2), 2) + every_left(7, (-1, 0), 1)
PAIRS = [(one, other) for one in SMALL for other in SMALL if one[0] == other[0]]


def product_end(one, other):
    return one[1] + other[1] + min(len(one[2]), len(other[2]))


def scales(p):
    """Fractions below 0 and above it, with the prime above, below, some times, and not at all."""
    return [Fraction(1), Fraction(-1), Fraction(p), Fraction(1, p), Fraction(-p), Fraction(-1, p), Fraction(p + 1),
            Fraction(p - 1, p + 1), Fraction(-p ** 3, 2 * p + 1), Fraction(2 * p + 1, p ** 3), Fraction(1, p - 1),
            Fraction(-p - 1, p ** 5), Fraction(p ** 5, p * p - 1), Fraction(10 ** 9 + 7, 10 ** 9 + 9)]


class Multiplied(unittest.TestCase):
    def test_told_ones(self):
        self.assertEqual(multiplied((7, 0, (3, 2)), (7, 0, (2, 1))), (7, 0, (6, 0)))
        self.assertEqual(multiplied((7, 0, (4,)), (7, 0, (2,))), (7, 0, (1,)))
        self.assertEqual(multiplied((7, 0, (4, 0)), (7, 0, (2, 0))), (7, 0, (1, 1)))
        self.assertEqual(multiplied((7, -2, (4, 0, 3)), (7, 5, (2, 1))), (7, 3, (1, 5)))
        self.assertEqual(multiplied((2, 0, (1, 1, 1)), (2, 0, (1, 1, 1))), (2, 0, (1, 0, 0)))
        self.assertEqual(multiplied((3, 1, (2, 2, 2, 2)), (3, 1, (2, 2, 2, 2))), (3, 2, (1, 0, 0, 0)))

    def test_bare_ones(self):
        self.assertEqual(multiplied((7, 3, ()), (7, -5, ())), (7, -2, ()))
        self.assertEqual(multiplied((7, 3, ()), (7, 3, ())), (7, 6, ()))
        self.assertEqual(multiplied((7, 3, ()), (7, -5, (4, 0, 3))), (7, -2, ()))
        self.assertEqual(multiplied((7, -5, (4, 0, 3)), (7, 3, ())), (7, -2, ()))

    def test_every_small_pair_against_fractions(self):
        for one, other in PAIRS:
            told = multiplied(one, other)
            self.assertEqual(told, left_of(one[0], amount(one) * amount(other), product_end(one, other)))
            self.assertEqual(multiplied(other, one), told)
            self.assertTrue(is_left(told))

    def test_whatever_fractions_begin_with_them(self):
        for one, other in PAIRS[::11]:
            told = multiplied(one, other)
            for part in parts_of(one):
                for far in parts_of(other):
                    self.assertTrue(begins_fraction(told, as_tuple(part * far)))

    def test_no_more_is_known(self):
        for one, other in PAIRS[::7]:
            place = end(multiplied(one, other))
            products = [part * far for part in parts_of(one) for far in parts_of(other)]
            seen = [left_of(one[0], product, place + 1) for product in products]
            self.assertGreater(len({figure_at(longer, place) for longer in seen}), 1)

    def test_of_one_with_itself(self):
        for one in SMALL:
            self.assertEqual(multiplied(one, one), left_of(one[0], amount(one) ** 2, end(one) + one[1]))
        # Of two choices of odd numbers nothing more is known than that the product is odd.
        self.assertEqual(multiplied((2, 0, (1,)), (2, 0, (1,))), (2, 0, (1,)))

    def test_far_places(self):
        for least in (-FAR, 0, FAR):
            for far in (-FAR, 1, FAR):
                self.assertEqual(multiplied((5, least, (4, 3)), (5, far, (4, 4, 4))), (5, least + far, (1, 1)))
                self.assertEqual(multiplied((5, least, ()), (5, far, (4, 4, 4))), (5, least + far, ()))
                self.assertEqual(multiplied((5, least, ()), (5, far, ())), (5, least + far, ()))

    def test_long_ones(self):
        for p in (2, 3, 97):
            for one in long_ones(p):
                for other in long_ones(p):
                    many = min(len(one[2]), len(other[2]))
                    figures = figures_of(p, unit(one) * unit(other), many)
                    self.assertEqual(multiplied(one, other), (p, one[1] + other[1], figures))

    def test_longer_ones_have_longer_products_that_begin_alike(self):
        for p in (2, 7):
            first = (p, -3, great_figures(p, 12, 1))
            second = (p, -1, great_figures(p, 12, 2))
            whole = multiplied(first, second)
            for many in range(12):
                for more in range(12):
                    short = multiplied((p, -3, first[2][:many]), (p, -1, second[2][:more]))
                    self.assertIs(begins_with(whole, short), True)
            for least in (-6, -5, -4):
                self.assertIs(begins_with(whole, multiplied((p, least, ()), second)), True)

    def test_unlike_primes(self):
        for one, other in UNLIKE:
            for pair in ((one, other), (other, one)):
                with self.assertRaises(Unlike):
                    multiplied(*pair)
                with self.assertRaises(LeftError):
                    multiplied(*pair)


class Scaled(unittest.TestCase):
    def test_told_ones(self):
        one = (7, -2, (4, 0, 3))
        self.assertEqual(scaled(one, (1, 1)), one)
        self.assertEqual(scaled(one, (-1, 1)), (7, -2, (3, 6, 3)))
        self.assertEqual(scaled(one, (2, 1)), (7, -2, (1, 1, 6)))
        self.assertEqual(scaled(one, (7, 1)), (7, -1, (4, 0, 3)))
        self.assertEqual(scaled(one, (1, 49)), (7, -4, (4, 0, 3)))
        self.assertEqual(scaled(one, (1, 2)), (7, -2, (2, 0, 5)))
        self.assertEqual(scaled(one, (98, 1)), (7, 0, (1, 1, 6)))
        self.assertEqual(scaled((2, 0, (1,)), (3, 4)), (2, -2, (1,)))

    def test_every_small_one_against_fractions(self):
        for one in SMALL:
            p = one[0]
            for part in scales(p):
                told = scaled(one, as_tuple(part))
                self.assertEqual(told, left_of(p, amount(one) * part, end(one) + times_in(p, part)))
                self.assertTrue(is_left(told))
                self.assertEqual(end(told), end(one) + times_in(p, part))

    def test_whatever_fractions_begin_with_it(self):
        for one in SMALL[::3]:
            p = one[0]
            for part in scales(p):
                told = scaled(one, as_tuple(part))
                products = [part * far for far in parts_of(one)]
                for product in products:
                    self.assertTrue(begins_fraction(told, as_tuple(product)))
                seen = [left_of(p, product, end(told) + 1) for product in products]
                self.assertGreater(len({figure_at(longer, end(told)) for longer in seen}), 1)

    def test_scaled_back(self):
        for one in SMALL + [(5, least, (3, 0, 4)) for least in (FAR, -FAR)]:
            for part in scales(one[0]):
                back = as_tuple(1 / part)
                self.assertEqual(scaled(scaled(one, as_tuple(part)), back), one)

    def test_bare_ones(self):
        for least in (-FAR, -3, 0, 4, FAR):
            self.assertEqual(scaled((7, least, ()), (3, 5)), (7, least, ()))
            self.assertEqual(scaled((7, least, ()), (-98, 5)), (7, least + 2, ()))
            self.assertEqual(scaled((7, least, ()), (5, 343)), (7, least - 3, ()))

    def test_far_places(self):
        for least in (FAR, -FAR):
            self.assertEqual(scaled((5, least, (3, 0, 4)), (-1, 25)), (5, least - 2, (2, 4, 0)))

    def test_parts_of_many_figures(self):
        for p in (2, 5, 97):
            power = p
            while len(str(power * p)) <= 999:
                power *= p
            parts = [Fraction(great(1000, 1), great(1000, 2)), Fraction(-great(1000, 3), power),
                     Fraction(power, great(1000, 4)), Fraction(-power), Fraction(1, power)]
            for part in parts:
                for one in long_ones(p)[::2]:
                    times = times_in(p, part)
                    core = part / Fraction(p) ** times
                    many = len(one[2])
                    number = unit(one) * core.numerator * pow(core.denominator, -1, p ** many)
                    told = scaled(one, as_tuple(part))
                    self.assertEqual(told, (p, one[1] + times, figures_of(p, number, many)))
                    self.assertEqual(scaled(told, as_tuple(1 / part)), one)

    def test_longer_ones_are_scaled_to_longer_ones_that_begin_alike(self):
        whole = (7, -3, great_figures(7, 12, 3))
        for part in scales(7):
            for many in range(12):
                short = scaled((7, -3, whole[2][:many]), as_tuple(part))
                self.assertIs(begins_with(scaled(whole, as_tuple(part)), short), True)

    def test_nought_and_what_is_no_fraction(self):
        for one in ((7, -2, (4, 0, 3)), (7, 3, ()), (2, FAR, (1,))):
            for thing in [(0, 1)] + no_fractions():
                with self.assertRaises(NoFraction):
                    scaled(one, thing)

    def test_what_is_refused_is_not_changed(self):
        part = [1, 2]
        with self.assertRaises(NoFraction):
            scaled((7, 0, (1,)), part)
        self.assertEqual(part, [1, 2])


class ProductDoubt(unittest.TestCase):
    def check(self, one, other):
        told = product_doubt(one, other)
        check_pairs(self, told, (one, other))
        products = [multiplied(*pair) for pair in told]
        self.assertEqual(parted_at(*products), end(multiplied(one, other)))
        self.assertEqual(product_doubt(one, other), told)

    def test_every_small_pair(self):
        for one, other in PAIRS:
            self.check(one, other)

    def test_bare_ones(self):
        for p in (2, 7, 97):
            for least in (-FAR, -1, 0, 2, FAR):
                for far in (-FAR, 0, 1, FAR):
                    self.check((p, least, ()), (p, far, ()))
                    for figures in ((1,), (1, 0), (p - 1, p - 1, 0)):
                        self.check((p, least, ()), (p, far, figures))
                        self.check((p, least, figures), (p, far, ()))

    def test_unlike_counts_of_figures(self):
        for p in (2, 3, 97):
            for many in range(6):
                for more in range(6):
                    first = (p, -FAR, great_figures(p, 6, 1)[:many])
                    self.check(first, (p, FAR, great_figures(p, 6, 2)[:more]))

    def test_long_ones(self):
        for p in (2, 97):
            for one in long_ones(p):
                for other in long_ones(p):
                    self.check(one, other)

    def test_of_one_with_itself(self):
        for one in SMALL:
            self.check(one, one)

    def test_unlike_primes(self):
        for one, other in UNLIKE:
            for pair in ((one, other), (other, one)):
                with self.assertRaises(Unlike):
                    product_doubt(*pair)


class AskedAgain(unittest.TestCase):
    def test_the_same_is_answered_alike(self):
        one = (7, -2, (4, 0, 3))
        other = (7, 5, (2, 1))
        for asked in range(3):
            self.assertEqual(multiplied(one, other), (7, 3, (1, 5)))
            self.assertEqual(scaled(one, (1, 2)), (7, -2, (2, 0, 5)))


if __name__ == "__main__":
    unittest.main()
