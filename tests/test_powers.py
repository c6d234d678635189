import unittest

from leftnumbers.errors import LeftError, NoPower
from leftnumbers.lefts import begins_fraction, is_left
from leftnumbers.near import begins_with, figure_at, parted_at
from leftnumbers.powers import power_doubt, raised
from leftnumbers.products import multiplied
from things import (
    FAR, amount, as_tuple, check_begun, end, every_left, figures_of, great_figures, left_of, long_ones,
    no_whole_numbers, parts_of, unit,
)

SMALL = every_left(2, range(-2, 3), 3) + every_left(3, range(-1, 2), 2) + every_left(7, (-1, 0), 1)
NO_POWERS = [0, 1001, -1, -2, -1000, 1002, 10 ** 60, -10 ** 60, "1", "", None, True, False, (), (1,), (2, 1), [1]]


def times_of(p):
    """1, the prime, its powers and what lies near them, up to 1000."""
    powers = [p ** k for k in range(1, 10) if p ** k <= 1000]
    near = [n + 1 for n in powers] + [n - 1 for n in powers] + [3 * n for n in powers] + [2, 3, 6, 12]
    return sorted({n for n in powers + near + [1, 999, 1000] if 1 <= n <= 1000})


def told_figures(one, n):
    """How many figures of the power are known, straight from the document's words."""
    p, k = one[0], len(one[2])
    t = 0
    while n % p ** (t + 1) == 0:
        t += 1
    if k == 0:
        return 0
    return t + 2 if p == 2 and k == 1 and t > 0 else k + t


class Raised(unittest.TestCase):
    def test_told_ones(self):
        self.assertEqual(raised((7, 0, (3, 1)), 1), (7, 0, (3, 1)))
        self.assertEqual(raised((7, 0, (3, 1)), 2), (7, 0, (2, 0)))
        self.assertEqual(raised((7, -2, (3,)), 3), (7, -6, (6,)))
        self.assertEqual(raised((7, 1, (2,)), 7), (7, 7, (2, 4)))
        self.assertEqual(raised((3, 0, (2, 1)), 3), (3, 0, (2, 2, 1)))
        self.assertEqual(raised((3, 0, (1,)), 9), (3, 0, (1, 0, 0)))
        self.assertEqual(raised((2, 5, (1, 1)), 2), (2, 10, (1, 0, 0)))
        self.assertEqual(raised((2, 5, (1, 1, 0)), 2), (2, 10, (1, 0, 0, 1)))

    def test_by_two_with_one_known_figure(self):
        one = (2, 3, (1,))
        for n in (1, 3, 5, 7, 9, 999):
            self.assertEqual(raised(one, n), (2, 3 * n, (1,)))
        for n in (2, 6, 10, 14, 998):
            self.assertEqual(raised(one, n), (2, 3 * n, (1, 0, 0)))
        for n in (4, 12, 20):
            self.assertEqual(raised(one, n), (2, 3 * n, (1, 0, 0, 0)))
        self.assertEqual(raised(one, 512), (2, 1536, (1,) + (0,) * 10))
        self.assertEqual(raised(one, 1000), (2, 3000, (1, 0, 0, 0, 0)))

    def test_by_two_with_more_known_figures(self):
        for figures in ((1, 0), (1, 1)):
            self.assertEqual(raised((2, 0, figures), 2), (2, 0, (1, 0, 0)))
            self.assertEqual(raised((2, 0, figures), 4), (2, 0, (1, 0, 0, 0)))
            self.assertEqual(raised((2, 0, figures), 3), (2, 0, figures))
        self.assertEqual(raised((2, 0, (1, 0, 1)), 2), (2, 0, (1, 0, 0, 1)))
        self.assertEqual(raised((2, 0, (1, 0, 1)), 3), (2, 0, (1, 0, 1)))

    def test_one_known_figure_of_greater_primes(self):
        self.assertEqual(raised((3, 0, (2,)), 3), (3, 0, (2, 2)))
        self.assertEqual(raised((3, 0, (2,)), 2), (3, 0, (1,)))
        self.assertEqual(raised((3, 0, (2,)), 6), (3, 0, (1, 0)))
        self.assertEqual(raised((5, 0, (3,)), 5), (5, 0, (3, 3)))

    def test_bare_ones(self):
        for p in (2, 3, 97):
            for least in (-FAR, -3, 0, 4, FAR):
                for n in times_of(p):
                    self.assertEqual(raised((p, least, ()), n), (p, n * least, ()))

    def test_every_small_one_against_fractions(self):
        for one in SMALL:
            p = one[0]
            for n in times_of(p):
                told = raised(one, n)
                self.assertEqual(told, left_of(p, amount(one) ** n, n * one[1] + told_figures(one, n)))
                self.assertTrue(is_left(told))

    def test_whatever_fractions_begin_with_it(self):
        for one in SMALL[::2]:
            for n in [n for n in times_of(one[0]) if n <= 100]:
                told = raised(one, n)
                for part in parts_of(one):
                    self.assertTrue(begins_fraction(told, as_tuple(part ** n)))

    def test_no_more_is_known(self):
        for one in SMALL:
            p = one[0]
            # Numbers that go on with every figure, and with every two.
            starts = [amount(one) + amount((p, end(one), (low, high))) for low in range(p) for high in range(p)]
            for n in [n for n in times_of(p) if n <= 30]:
                place = end(raised(one, n))
                seen = [left_of(p, start ** n, place + 1) for start in starts]
                self.assertGreater(len({figure_at(longer, place) for longer in seen}), 1)

    def test_more_is_known_than_of_a_product_of_the_same(self):
        for one in SMALL:
            self.assertIs(begins_with(raised(one, 2), multiplied(one, one)), True)
        self.assertEqual(end(raised((2, 0, (1, 1, 1)), 2)), end(multiplied((2, 0, (1, 1, 1)), (2, 0, (1, 1, 1)))) + 1)

    def test_far_places(self):
        for least in (FAR, -FAR):
            self.assertEqual(raised((5, least, (3, 0, 4)), 2), (5, 2 * least, (4, 1, 4)))
            self.assertEqual(raised((5, least, (3,)), 1000), (5, 1000 * least, (1, 0, 0, 0)))

    def test_long_ones(self):
        for p in (2, 3, 97):
            for one in long_ones(p)[:-1]:
                for n in (1, 2, p, p * p % 1001, 512, 999, 1000):
                    many = told_figures(one, n)
                    figures = figures_of(p, pow(unit(one), n, p ** many), many)
                    self.assertEqual(raised(one, n), (p, n * one[1], figures))

    def test_longer_ones_have_longer_powers_that_begin_alike(self):
        for p in (2, 3, 7):
            for seed in range(4):
                figures = great_figures(p, 12, seed)
                for n in times_of(p):
                    told = [raised((p, -3, figures[:many]), n) for many in range(13)]
                    for short, longer in zip(told, told[1:]):
                        self.assertIs(begins_with(longer, short), True)
                    self.assertIs(begins_with(told[0], raised((p, -4, ()), n)), True)

    def test_what_is_no_power(self):
        for one in ((7, -2, (4, 0, 3)), (7, 3, ()), (2, FAR, (1,))):
            for thing in NO_POWERS + no_whole_numbers():
                with self.assertRaises(NoPower):
                    raised(one, thing)
            with self.assertRaises(LeftError):
                raised(one, 0)


class PowerDoubt(unittest.TestCase):
    def check(self, one, n):
        told = power_doubt(one, n)
        self.assertEqual((type(told), len(told)), (tuple, 2))
        for longer in told:
            check_begun(self, longer, one)
        self.assertEqual(parted_at(raised(told[0], n), raised(told[1], n)), end(raised(one, n)))
        self.assertEqual(power_doubt(one, n), told)

    def test_every_small_one(self):
        for one in SMALL:
            for n in times_of(one[0]):
                self.check(one, n)

    def test_every_power(self):
        for one in ((2, 0, (1,)), (2, 1, (1, 0)), (2, -1, (1, 1)), (2, 3, ()), (3, 0, (2,)), (5, 0, (1, 4)), (97, 1, ())):
            for n in range(1, 1001):
                self.check(one, n)

    def test_bare_ones(self):
        for p in (2, 7, 97):
            for least in (-FAR, -1, 0, 2, FAR):
                for n in (1, 2, p, 1000):
                    self.check((p, least, ()), n)

    def test_by_two_with_one_known_figure(self):
        for least in (-FAR, -1, 0, 2, FAR):
            for n in (1, 2, 3, 4, 5, 6, 8, 512, 999, 1000):
                self.check((2, least, (1,)), n)

    def test_long_ones(self):
        for p in (2, 97):
            for one in long_ones(p):
                for n in (1, 2, p, 1000):
                    self.check(one, n)

    def test_what_is_no_power(self):
        for one in ((7, -2, (4, 0, 3)), (7, 3, ()), (2, FAR, (1,))):
            for thing in NO_POWERS + no_whole_numbers():
                with self.assertRaises(NoPower):
                    power_doubt(one, thing)


class AskedAgain(unittest.TestCase):
    def test_the_same_is_answered_alike(self):
        for asked in range(3):
            self.assertEqual(raised((3, 0, (2, 1)), 3), (3, 0, (2, 2, 1)))


if __name__ == "__main__":
    unittest.main()
