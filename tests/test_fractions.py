import unittest
from fractions import Fraction

from leftnumbers.errors import LeftError, NoFraction
from leftnumbers.fractions import (
    alike, exponent_of, fraction, is_fraction, minus_fraction, over_fraction, plus_fraction, times_fraction,
)
from things import Odd, great, no_whole_numbers

PRIMES = (2, 3, 5, 7, 97)
FAR = 10 ** 60 - 1


def pair(value):
    return (value.numerator, value.denominator)


def small_parts():
    return sorted({pair(Fraction(top, bottom)) for top in range(-9, 10) for bottom in range(1, 10)})


def great_parts():
    """Fractions with up to a thousand figures above and below, of either sign."""
    sizes = ((1000, 1000), (1000, 1), (1, 1000), (500, 999), (60, 60))
    parts = [Fraction(great(above, 2 * k), great(below, 2 * k + 1)) for k, (above, below) in enumerate(sizes)]
    # Close by one another, and with a great common factor in the bottoms.
    parts.append(Fraction(1, 6 ** 1200))
    parts.append(Fraction(-5, 2 ** 3300))
    return [pair(part) for part in parts] + [pair(-part) for part in parts]


class Checks(unittest.TestCase):
    def assert_pair(self, told, value):
        self.assertIs(type(told), tuple)
        self.assertEqual([type(number) for number in told], [int, int])
        self.assertEqual(told, pair(value))


class Making(Checks):
    def test_tops_and_bottoms_of_either_sign(self):
        for top in range(-40, 41):
            for bottom in list(range(-40, 0)) + list(range(1, 41)):
                self.assert_pair(fraction(top, bottom), Fraction(top, bottom))

    def test_told_ones(self):
        self.assertEqual(fraction(6, 4), (3, 2))
        self.assertEqual(fraction(6, -4), (-3, 2))
        self.assertEqual(fraction(-6, 4), (-3, 2))
        self.assertEqual(fraction(-6, -4), (3, 2))
        self.assertEqual(fraction(4, 2), (2, 1))
        self.assertEqual(fraction(2, -4), (-1, 2))

    def test_nought_is_written_in_one_way(self):
        for bottom in (1, -1, 2, -7, 10 ** 60, great(1000, 7)):
            self.assertEqual(fraction(0, bottom), (0, 1))

    def test_a_bottom_left_out_is_one(self):
        for top in (0, 1, -1, 6, -9, great(1000, 8), -great(1000, 9)):
            self.assert_pair(fraction(top), Fraction(top))

    def test_by_the_names_of_the_arguments(self):
        self.assertEqual(fraction(top=10, bottom=-15), (-2, 3))

    def test_great_ones(self):
        common = great(400, 10)
        tops = [great(600, 11), common * great(600, 12), 2 ** 3300, 6 ** 1200, great(1000, 13)]
        bottoms = [great(600, 14), common * great(600, 15), 2 ** 3299, 10 ** 999, great(1000, 13)]
        for top in tops:
            for bottom in bottoms:
                for above, below in ((top, bottom), (-top, bottom), (top, -bottom), (-top, -bottom)):
                    self.assert_pair(fraction(above, below), Fraction(above, below))

    def test_a_bottom_of_nought_is_refused(self):
        for top in (0, 1, -1, 7, great(1000, 16)):
            with self.assertRaises(NoFraction):
                fraction(top, 0)

    def test_what_is_no_whole_number_is_refused_at_either_place(self):
        for number, thing in enumerate(no_whole_numbers()):
            for told in ((thing,), (thing, 1), (thing, 3), (thing, 0), (1, thing), (0, thing), (thing, thing)):
                with self.subTest(number=number, length=len(told)):
                    with self.assertRaises(NoFraction):
                        fraction(*told)

    def test_fractions_are_no_tops_and_no_bottoms(self):
        for told in (((1, 2),), ((1, 2), 1), (1, (1, 2)), ([1, 2], [3, 4])):
            with self.assertRaises(NoFraction):
                fraction(*told)

    def test_a_refusal_is_a_left_error(self):
        with self.assertRaises(LeftError):
            fraction("1", 0)
        with self.assertRaises(ValueError):
            fraction(1, 0)

    def test_nothing_is_changed_by_a_refusal(self):
        top = [1, [2]]
        bottom = {3: [4]}
        for asked in range(2):
            with self.assertRaises(NoFraction):
                fraction(top, bottom)
        self.assertEqual((top, bottom), ([1, [2]], {3: [4]}))


class Asking(Checks):
    def test_small_tuples(self):
        for top in range(-30, 31):
            for bottom in range(-30, 31):
                lowest = bottom >= 1 and pair(Fraction(top, bottom)) == (top, bottom)
                self.assertIs(is_fraction((top, bottom)), lowest)

    def test_told_ones(self):
        for thing in ((0, 1), (1, 1), (-1, 1), (3, 2), (-3, 2), (1, 97), (great(1000, 17), 1)):
            self.assertIs(is_fraction(thing), True)

    def test_what_is_made_is_one(self):
        for part in small_parts() + great_parts():
            self.assertIs(is_fraction(part), True)
            self.assertIs(is_fraction(fraction(6 * part[0], -6 * part[1])), True)

    def test_not_in_lowest_terms(self):
        common = great(300, 18)
        for thing in ((2, 2), (6, 4), (-6, 4), (9, 3), (97, 97 * 97), (2 * common, 3 * common)):
            self.assertIs(is_fraction(thing), False)

    def test_a_bottom_below_one(self):
        for thing in ((1, 0), (0, 0), (-1, 0), (3, -2), (-3, -2), (0, -1), (1, -1), (1, -great(1000, 19))):
            self.assertIs(is_fraction(thing), False)

    def test_nought_written_otherwise(self):
        for bottom in (2, 3, 97, -1, 0, great(1000, 20)):
            self.assertIs(is_fraction((0, bottom)), False)

    def test_a_truth_among_the_two(self):
        for thing in ((True, 1), (1, True), (False, 1), (True, True), (3, True), (True, 2), (False, True), (1, False)):
            self.assertIs(is_fraction(thing), False)

    def test_other_things_among_the_two(self):
        for number, thing in enumerate(no_whole_numbers()):
            with self.subTest(number=number):
                self.assertIs(is_fraction((thing, 1)), False)
                self.assertIs(is_fraction((1, thing)), False)
                self.assertIs(is_fraction((thing, thing)), False)

    def test_lists_and_tuples_of_another_length(self):
        for thing in ([1, 2], [0, 1], [], (), (1,), (0,), (1, 2, 3), (0, 1, 1), (1, 2, Odd()), ((1, 2),), ((1, 2), 1)):
            self.assertIs(is_fraction(thing), False)

    def test_things_of_other_kinds(self):
        for number, thing in enumerate(no_whole_numbers() + [0, 1, 5, -5, "12", b"\x01\x02", {1: 2, 3: 4}, {1, 2}]):
            with self.subTest(number=number):
                self.assertIs(is_fraction(thing), False)

    def test_nothing_is_changed_and_the_same_is_answered(self):
        thing = [1, 2]
        for asked in range(3):
            self.assertIs(is_fraction(thing), False)
            self.assertIs(is_fraction((1, 2)), True)
        self.assertEqual(thing, [1, 2])


class Reckoning(Checks):
    def check(self, one, other):
        first = Fraction(*one)
        second = Fraction(*other)
        self.assert_pair(plus_fraction(one, other), first + second)
        self.assert_pair(minus_fraction(one, other), first - second)
        self.assert_pair(times_fraction(one, other), first * second)
        if second:
            self.assert_pair(over_fraction(one, other), first / second)

    def test_told_ones(self):
        self.assertEqual(plus_fraction((1, 6), (1, 3)), (1, 2))
        self.assertEqual(plus_fraction((1, 2), (-1, 2)), (0, 1))
        self.assertEqual(minus_fraction((1, 6), (1, 3)), (-1, 6))
        self.assertEqual(times_fraction((-2, 3), (3, 4)), (-1, 2))
        self.assertEqual(over_fraction((2, 3), (-4, 9)), (-3, 2))
        self.assertEqual(over_fraction((0, 1), (-4, 9)), (0, 1))

    def test_small_ones(self):
        for one in small_parts():
            for other in small_parts():
                self.check(one, other)

    def test_great_ones(self):
        for one in great_parts():
            for other in great_parts():
                self.check(one, other)

    def test_over_nought_is_refused(self):
        for one in small_parts() + great_parts():
            with self.assertRaises(NoFraction):
                over_fraction(one, (0, 1))

    def test_asked_again_it_answers_alike(self):
        for deed in (plus_fraction, minus_fraction, times_fraction, over_fraction):
            self.assertEqual(deed((2, 9), (-5, 6)), deed((2, 9), (-5, 6)))


class Exponent(Checks):
    def test_told_ones(self):
        self.assertEqual(exponent_of(2, (12, 5)), 2)
        self.assertEqual(exponent_of(2, (5, 12)), -2)
        self.assertEqual(exponent_of(3, (-9, 2)), 2)
        self.assertEqual(exponent_of(3, (-2, 27)), -3)
        self.assertEqual(exponent_of(5, (2, 3)), 0)
        self.assertEqual(exponent_of(97, (1, 1)), 0)

    def test_the_prime_above_and_below(self):
        for p in PRIMES:
            for times in range(60):
                for rest in ((1, 1), (-1, 1), (p + 1, p - 1), (-(p * p + 1), 2 * p + 1)):
                    above = pair(Fraction(*rest) * p ** times)
                    below = pair(Fraction(*rest) / p ** times)
                    self.assertEqual(exponent_of(p, above), times)
                    self.assertEqual(exponent_of(p, below), -times)

    def test_great_ones(self):
        for p, most in ((2, 3321), (3, 2095), (97, 503)):
            for part, times in (((p ** most, 1), most), ((1, p ** most), -most), ((-(p ** most), p + 1), most)):
                self.assertEqual(exponent_of(p, part), times)


class Alike(Checks):
    def test_nought_between_them(self):
        for p in PRIMES:
            for part in ((0, 1), (5, 1), (-7, 96), (1, p), (p, 1)) + tuple(great_parts()):
                for e in (0, 1, -1, 500, -500, FAR, -FAR):
                    self.assertIs(alike(p, part, part, e), True)

    def test_just_the_exponent_one_less_one_more(self):
        for p in PRIMES:
            for times in range(-40, 41):
                for start in ((0, 1), (3, 4), (-1, 97), (1, p * p)):
                    for rest in ((1, 1), (-1, 1), (p + 1, 2 * p - 1)):
                        far = pair(Fraction(*start) + Fraction(*rest) * Fraction(p) ** times)
                        for one, other in ((start, far), (far, start)):
                            self.assertIs(alike(p, one, other, times - 1), True)
                            self.assertIs(alike(p, one, other, times), True)
                            self.assertIs(alike(p, one, other, times + 1), False)

    def test_told_ones(self):
        self.assertIs(alike(2, (1, 1), (9, 1), 3), True)
        self.assertIs(alike(2, (1, 1), (9, 1), 4), False)
        self.assertIs(alike(3, (1, 9), (2, 9), -2), True)
        self.assertIs(alike(3, (1, 9), (2, 9), -1), False)
        self.assertIs(alike(7, (1, 3), (5, 1), 1), True)
        self.assertIs(alike(5, (1, 2), (1, 3), 0), True)
        self.assertIs(alike(5, (1, 2), (1, 3), 1), False)

    def test_places_of_sixty_figures(self):
        for p in PRIMES:
            for one, other in (((1, 1), (2, 1)), ((0, 1), (p ** 40, 1)), ((1, p ** 40), (0, 1)), ((-3, 4), (5, 7))):
                for e in (10 ** 30, 10 ** 59, FAR, great(60, p)):
                    self.assertIs(alike(p, one, other, e), False)
                    self.assertIs(alike(p, one, other, -e), True)

    def test_great_ones(self):
        for p, most in ((2, 3300), (97, 500)):
            one = (great(900, p), 1)
            other = (one[0] + p ** most, 1)
            self.assertEqual([alike(p, one, other, most + k) for k in (-1, 0, 1)], [True, True, False])
            other = pair(Fraction(one[0]) - Fraction(1, p ** most))
            self.assertEqual([alike(p, one, other, k - most) for k in (-1, 0, 1)], [True, True, False])

    def test_alike_to_one_is_alike_to_one_another(self):
        parts = small_parts()[::3]
        for p in (2, 3):
            for e in range(-3, 4):
                for one in parts:
                    near = [part for part in parts if alike(p, one, part, e)]
                    for other in near:
                        self.assertTrue(alike(p, one, other, e - 1))
                        self.assertTrue(alike(p, near[0], other, e))


if __name__ == "__main__":
    unittest.main()
