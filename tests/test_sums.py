import unittest

from leftnumbers.errors import LeftError, Unlike
from leftnumbers.lefts import begins_fraction, is_left
from leftnumbers.near import begins_with, parted_at
from leftnumbers.sums import minus, opposite, plus, sum_doubt
from things import FAR, UNLIKE, amount, check_pairs, end, every_left, great_figures, left_of, long_ones, parts_of

SMALL = every_left(2, range(-2, 3), 3) + every_left(3, range(-1, 2), 2) + every_left(7, (-1, 0), 1)
PAIRS = [(one, other) for one in SMALL for other in SMALL if one[0] == other[0]]


def lesser_end(one, other):
    return min(end(one), end(other))


class Plus(unittest.TestCase):
    def test_told_ones(self):
        self.assertEqual(plus((7, 0, (4, 0, 3)), (7, 0, (2, 1, 1))), (7, 0, (6, 1, 4)))
        self.assertEqual(plus((7, 0, (4, 6, 3)), (7, 0, (4, 0, 1))), (7, 0, (1, 0, 5)))
        self.assertEqual(plus((7, 0, (4, 6, 6)), (7, 0, (3, 0, 0))), (7, 3, ()))
        self.assertEqual(plus((7, -2, (4, 0, 3)), (7, 0, (5, 1))), (7, -2, (4, 0, 1)))
        self.assertEqual(plus((2, 0, (1, 1, 1)), (2, 0, (1,))), (2, 1, ()))
        self.assertEqual(plus((2, 0, (1, 1, 1)), (2, 0, (1, 0))), (2, 2, ()))
        self.assertEqual(plus((2, 0, (1, 1, 0)), (2, 0, (1, 0, 0))), (2, 2, (1,)))

    def test_bare_ones(self):
        one = (7, -2, (4, 0, 3))
        self.assertEqual(plus(one, (7, 5, ())), one)
        self.assertEqual(plus(one, (7, 1, ())), one)
        self.assertEqual(plus(one, (7, 0, ())), (7, -2, (4, 0)))
        self.assertEqual(plus(one, (7, -2, ())), (7, -2, ()))
        self.assertEqual(plus(one, (7, -9, ())), (7, -9, ()))
        self.assertEqual(plus((7, 3, ()), (7, -4, ())), (7, -4, ()))
        self.assertEqual(plus((7, 3, ()), (7, 3, ())), (7, 3, ()))

    def test_every_small_pair_against_fractions(self):
        for one, other in PAIRS:
            told = plus(one, other)
            self.assertEqual(told, left_of(one[0], amount(one) + amount(other), lesser_end(one, other)))
            self.assertEqual(plus(other, one), told)
            self.assertTrue(is_left(told))

    def test_whatever_fractions_begin_with_them(self):
        for one, other in PAIRS[::11]:
            told = plus(one, other)
            for part in parts_of(one):
                for far in parts_of(other):
                    total = part + far
                    self.assertTrue(begins_fraction(told, (total.numerator, total.denominator)))

    def test_of_one_with_itself(self):
        for one in SMALL:
            self.assertEqual(plus(one, one), left_of(one[0], 2 * amount(one), end(one)))
        # Of two choices with the figure 1 known alone nothing more is known than that the sum is even.
        self.assertEqual(plus((2, 0, (1,)), (2, 0, (1,))), (2, 1, ()))

    def test_far_apart(self):
        for low, high in ((-FAR, FAR), (-FAR, 0), (0, FAR)):
            for figures in ((), (1,), (4, 0, 4)):
                for other in ((), (2,), (4, 4, 4)):
                    one = (5, low, other)
                    self.assertEqual(plus(one, (5, high, figures)), one)
                    self.assertEqual(plus((5, high, figures), one), one)

    def test_far_out_and_near_one_another(self):
        for least in (-FAR, FAR - 4):
            self.assertEqual(plus((5, least, (4, 4, 4, 1)), (5, least, (1, 0, 0, 2))), (5, least + 3, (4,)))
            self.assertEqual(plus((5, least, (4, 1, 3)), (5, least + 1, (4, 4, 4))), (5, least, (4, 0, 3)))

    def test_long_ones(self):
        for p in (2, 3, 97):
            for one in long_ones(p):
                for other in long_ones(p):
                    total = amount(one) + amount(other)
                    self.assertEqual(plus(one, other), left_of(p, total, lesser_end(one, other)))

    def test_longer_ones_have_longer_sums_that_begin_alike(self):
        first = (7, -3, great_figures(7, 12, 1))
        second = (7, -1, great_figures(7, 12, 2))
        whole = plus(first, second)
        for many in range(12):
            for more in range(12):
                short = plus((7, -3, first[2][:many]), (7, -1, second[2][:more]))
                self.assertIs(begins_with(whole, short), True)

    def test_unlike_primes(self):
        for one, other in UNLIKE:
            for pair in ((one, other), (other, one)):
                with self.assertRaises(Unlike):
                    plus(*pair)
                with self.assertRaises(LeftError):
                    plus(*pair)


class Minus(unittest.TestCase):
    def test_told_ones(self):
        self.assertEqual(minus((7, 0, (4, 0, 3)), (7, 0, (2, 1, 1))), (7, 0, (2, 6, 1)))
        self.assertEqual(minus((7, 0, (1,)), (7, 0, (2, 1))), (7, 0, (6,)))
        self.assertEqual(minus((7, 0, (2, 1)), (7, 0, (1,))), (7, 0, (1,)))
        self.assertEqual(minus((7, 3, ()), (7, 0, (1,))), (7, 0, (6,)))
        self.assertEqual(minus((7, 0, (1,)), (7, 3, ())), (7, 0, (1,)))

    def test_every_small_pair_against_fractions(self):
        for one, other in PAIRS:
            told = minus(one, other)
            self.assertEqual(told, left_of(one[0], amount(one) - amount(other), lesser_end(one, other)))
            self.assertEqual(told, opposite(minus(other, one)))
            self.assertTrue(is_left(told))

    def test_whatever_fractions_begin_with_them(self):
        for one, other in PAIRS[::11]:
            told = minus(one, other)
            for part in parts_of(one):
                for far in parts_of(other):
                    rest = part - far
                    self.assertTrue(begins_fraction(told, (rest.numerator, rest.denominator)))

    def test_of_one_with_itself(self):
        for one in SMALL + long_ones(97):
            self.assertEqual(minus(one, one), (one[0], end(one), ()))

    def test_far_apart(self):
        for low, high in ((-FAR, FAR), (-FAR, 0), (0, FAR)):
            for figures in ((), (1,), (4, 0, 4)):
                for other in ((), (2,), (4, 4, 4)):
                    one = (5, low, other)
                    self.assertEqual(minus(one, (5, high, figures)), one)
                    self.assertEqual(minus((5, high, figures), one), opposite(one))

    def test_long_ones(self):
        for p in (2, 97):
            for one in long_ones(p):
                for other in long_ones(p):
                    rest = amount(one) - amount(other)
                    self.assertEqual(minus(one, other), left_of(p, rest, lesser_end(one, other)))

    def test_unlike_primes(self):
        for one, other in UNLIKE:
            for pair in ((one, other), (other, one)):
                with self.assertRaises(Unlike):
                    minus(*pair)


class Opposite(unittest.TestCase):
    def test_told_ones(self):
        self.assertEqual(opposite((7, -2, (4, 0, 3))), (7, -2, (3, 6, 3)))
        self.assertEqual(opposite((2, 0, (1, 0, 0))), (2, 0, (1, 1, 1)))
        self.assertEqual(opposite((2, 0, (1,))), (2, 0, (1,)))
        self.assertEqual(opposite((3, 5, (2, 2, 2))), (3, 5, (1, 0, 0)))

    def test_bare_ones(self):
        for least in (0, 4, -4, FAR, -FAR):
            self.assertEqual(opposite((7, least, ())), (7, least, ()))

    def test_every_small_one_against_fractions(self):
        for one in SMALL:
            told = opposite(one)
            self.assertEqual(told, left_of(one[0], -amount(one), end(one)))
            for part in parts_of(one):
                self.assertTrue(begins_fraction(told, (-part.numerator, part.denominator)))

    def test_the_opposite_of_the_opposite_is_the_one_again(self):
        far_ones = [(5, least, (3, 0, 4)) for least in (FAR, -FAR)]
        for one in SMALL + long_ones(2) + long_ones(97) + far_ones:
            self.assertEqual(opposite(opposite(one)), one)
            self.assertEqual(plus(one, opposite(one)), (one[0], end(one), ()))

    def test_far_places(self):
        for least in (FAR, -FAR):
            self.assertEqual(opposite((5, least, (3, 0, 4))), (5, least, (2, 4, 0)))

    def test_long_ones(self):
        for p in (2, 97):
            for one in long_ones(p):
                self.assertEqual(opposite(one), left_of(p, -amount(one), end(one)))


class SumDoubt(unittest.TestCase):
    def check(self, one, other):
        told = sum_doubt(one, other)
        check_pairs(self, told, (one, other))
        self.assertEqual(parted_at(plus(*told[0]), plus(*told[1])), end(plus(one, other)))
        self.assertEqual(sum_doubt(one, other), told)

    def test_every_small_pair(self):
        for one, other in PAIRS:
            self.check(one, other)

    def test_bare_ones(self):
        for p in (2, 7, 97):
            for least in (-FAR, -1, 0, 2, FAR):
                for far in (-FAR, 0, 1, 2, FAR):
                    self.check((p, least, ()), (p, far, ()))
                    self.check((p, least, ()), (p, far, (1, 0)))
                    self.check((p, least, (1, 0)), (p, far, ()))

    def test_far_apart(self):
        for low, high in ((-FAR, FAR), (-FAR, 0), (0, FAR)):
            for figures in ((), (1,), (4, 0, 4)):
                for other in ((), (2,), (4, 4, 4)):
                    self.check((5, low, other), (5, high, figures))
                    self.check((5, high, figures), (5, low, other))

    def test_long_ones(self):
        for p in (2, 97):
            for one in long_ones(p):
                for other in long_ones(p):
                    self.check(one, other)

    def test_of_one_with_itself(self):
        for one in SMALL:
            self.check(one, one)

    def test_unlike_primes(self):
        for one, other in UNLIKE:
            for pair in ((one, other), (other, one)):
                with self.assertRaises(Unlike):
                    sum_doubt(*pair)


class AskedAgain(unittest.TestCase):
    def test_the_same_is_answered_alike(self):
        one = (7, -2, (4, 0, 3))
        other = (7, -1, (4, 6))
        for asked in range(3):
            self.assertEqual(plus(one, other), (7, -2, (4, 4, 2)))
            self.assertEqual(minus(one, other), (7, -2, (4, 3, 3)))
            self.assertEqual(opposite(one), (7, -2, (3, 6, 3)))


if __name__ == "__main__":
    unittest.main()
