import unittest
from fractions import Fraction

from leftnumbers.errors import LeftError, NoFraction, NoPlace, NoPrime
from leftnumbers.lefts import begins_fraction, is_left
from leftnumbers.near import begins_with
from leftnumbers.seen import seen_left, size_of
from things import as_tuple, end, figures_of, great, left_of, no_fractions, no_whole_numbers, times_in

PRIMES = (2, 3, 7, 97)
NO_PRIMES = [0, 1, 4, -2, -7, 9, 91, 99, 101, 10 ** 60]


def parts(p):
    """Nought, whole numbers, fractions on either side of it, with the prime above, below and not at all."""
    tops = [0, 1, -1, 2, -5, p, -p, p - 1, p + 1, p ** 3, -2 * p ** 2, p ** 5 + 1, 360, -1001]
    bottoms = [1, 2, 3, p, p + 1, p * p, 2 * p ** 3 + 2, 5 * p ** 3, 360]
    return sorted({Fraction(top, bottom) for top in tops for bottom in bottoms})


def greatest_power(p, figures):
    power = p
    while len(str(power * p)) <= figures:
        power *= p
    return power


def great_parts(p):
    power = greatest_power(p, 1000)
    return [Fraction(great(1000, 1), great(1000, 2)), Fraction(-great(1000, 3), power), Fraction(power),
            Fraction(-power, great(1000, 4)), Fraction(1, power), Fraction(-great(1000, 5))]


class SeenLeft(unittest.TestCase):
    def test_told_ones(self):
        self.assertEqual(seen_left(7, (1, 3), 3), (7, 0, (5, 4, 4)))
        self.assertEqual(seen_left(7, (151, 49), 1), (7, -2, (4, 0, 3)))
        self.assertEqual(seen_left(7, (-1, 1), 4), (7, 0, (6, 6, 6, 6)))
        self.assertEqual(seen_left(2, (-3, 4), 2), (2, -2, (1, 0, 1, 1)))
        self.assertEqual(seen_left(3, (18, 5), 4), (3, 2, (1, 1)))
        self.assertEqual(seen_left(5, (25, 1), 3), (5, 2, (1,)))
        self.assertEqual(seen_left(5, (25, 1), 2), (5, 2, ()))
        self.assertEqual(seen_left(5, (25, 1), -1), (5, -1, ()))

    def test_nought(self):
        for p in PRIMES:
            for place in (-400, -1, 0, 1, 400):
                self.assertEqual(seen_left(p, (0, 1), place), (p, place, ()))

    def test_against_fractions(self):
        for p in PRIMES:
            for part in parts(p):
                for place in (-400, -7, -4, -3, -2, -1, 0, 1, 2, 3, 4, 5, 6, 9, 400):
                    told = seen_left(p, as_tuple(part), place)
                    self.assertEqual(told, left_of(p, part, place))
                    self.assertEqual(end(told), place)
                    self.assertTrue(is_left(told))
                    self.assertTrue(begins_fraction(told, as_tuple(part)))

    def test_ends_about_the_exponent(self):
        for p in PRIMES:
            for part in parts(p):
                if part:
                    times = times_in(p, part)
                    for less in (0, 1, 2):
                        self.assertEqual(seen_left(p, as_tuple(part), times - less), (p, times - less, ()))
                    told = seen_left(p, as_tuple(part), times + 1)
                    self.assertEqual((told[:2], len(told[2])), ((p, times), 1))

    def test_parts_of_many_figures(self):
        for p in PRIMES:
            for part in great_parts(p):
                times = times_in(p, part)
                core = part / Fraction(p) ** times
                for place in (-400, 0, 400):
                    many = max(place - times, 0)
                    figures = figures_of(p, core.numerator * pow(core.denominator, -1, p ** (many + 1)), many)
                    self.assertEqual(seen_left(p, as_tuple(part), place), (p, place - many, figures))

    def test_with_a_greater_end_comes_one_that_begins_with_it(self):
        for p in PRIMES:
            for part in parts(p)[::5]:
                told = [seen_left(p, as_tuple(part), place) for place in range(-8, 9)]
                for short, longer in zip(told, told[1:]):
                    self.assertIs(begins_with(longer, short), True)

    def test_no_prime(self):
        for thing in NO_PRIMES + no_whole_numbers():
            with self.assertRaises(NoPrime):
                seen_left(thing, (1, 2), 3)

    def test_no_place(self):
        for thing in no_whole_numbers():
            for part in ((1, 2), (0, 1)):
                with self.assertRaises(NoPlace):
                    seen_left(7, part, thing)

    def test_no_fraction(self):
        for thing in no_fractions():
            for place in (3, -400):
                with self.assertRaises(NoFraction):
                    seen_left(7, thing, place)

    def test_several_refusals_due(self):
        for p in (4, True, "7", None):
            for place in (True, "0", None, 2.0):
                for part in ((2, 4), (1, 0), (True, 1), None, "1/2", [1, 2]):
                    with self.assertRaises(NoPrime):
                        seen_left(p, part, place)
                    with self.assertRaises(NoPrime):
                        seen_left(p, part, 0)
                    with self.assertRaises(NoPrime):
                        seen_left(p, (1, 2), place)
                    with self.assertRaises(NoPlace):
                        seen_left(7, part, place)
                    with self.assertRaises(LeftError):
                        seen_left(7, part, 0)

    def test_what_is_refused_is_not_changed(self):
        part = [1, 2]
        with self.assertRaises(NoFraction):
            seen_left(7, part, 0)
        self.assertEqual(part, [1, 2])

    def test_the_same_is_answered_alike(self):
        for asked in range(3):
            self.assertEqual(seen_left(7, (1, 3), 3), (7, 0, (5, 4, 4)))


class SizeOf(unittest.TestCase):
    def test_told_ones(self):
        self.assertEqual(size_of(7, (1, 1)), 1)
        self.assertEqual(size_of(7, (-1, 1)), 1)
        self.assertEqual(size_of(7, (5, 3)), 5)
        self.assertEqual(size_of(7, (-5, 3)), 5)
        self.assertEqual(size_of(7, (3, 5)), 5)
        self.assertEqual(size_of(7, (-3, 5)), 5)
        self.assertEqual(size_of(7, (98, 5)), 5)
        self.assertEqual(size_of(7, (-98, 1)), 2)
        self.assertEqual(size_of(7, (10, 343)), 10)
        self.assertEqual(size_of(7, (-3, 35)), 5)
        self.assertEqual(size_of(2, (1, 1024)), 1)
        self.assertEqual(size_of(2, (-1024, 1)), 1)
        self.assertEqual(size_of(3, (1024, 1)), 1024)

    def test_against_fractions(self):
        for p in PRIMES:
            for part in parts(p) + great_parts(p):
                if part:
                    core = part / Fraction(p) ** times_in(p, part)
                    self.assertEqual(size_of(p, as_tuple(part)), max(abs(core.numerator), core.denominator))

    def test_the_prime_some_times_above_and_below(self):
        for p in PRIMES:
            for times in (0, 1, 2, 3, 4, 5, 8, 100):
                for top, bottom in ((1, 1), (-1, 1), (5, 11), (-5, 11), (11, 5), (-11, 5)):
                    self.assertEqual(size_of(p, (top * p ** times, bottom)), max(abs(top), bottom))
                    self.assertEqual(size_of(p, (top, bottom * p ** times)), max(abs(top), bottom))


if __name__ == "__main__":
    unittest.main()
