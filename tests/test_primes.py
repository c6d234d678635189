import unittest

from leftnumbers.primes import exponent, is_prime, is_whole, power_of
from things import great, no_whole_numbers

UP_TO_97 = [n for n in range(2, 98) if all(n % d for d in range(2, n))]


class Whole(unittest.TestCase):
    def test_ints_of_either_sign_and_any_size(self):
        for number in (0, 1, 2, 97, 10 ** 60, great(1000, 1)):
            self.assertIs(is_whole(number), True)
            self.assertIs(is_whole(-number), True)

    def test_true_and_false_are_none(self):
        self.assertIs(is_whole(True), False)
        self.assertIs(is_whole(False), False)

    def test_things_of_other_kinds_are_none(self):
        for number, thing in enumerate(no_whole_numbers()):
            with self.subTest(number=number):
                self.assertIs(is_whole(thing), False)

    def test_asked_again_it_answers_alike_and_changes_nothing(self):
        thing = [2, [3]]
        for asked in range(3):
            self.assertIs(is_whole(thing), False)
            self.assertIs(is_prime(thing), False)
            self.assertIs(is_whole(2), True)
            self.assertIs(is_prime(2), True)
        self.assertEqual(thing, [2, [3]])


class Prime(unittest.TestCase):
    def test_each_number_to_97(self):
        self.assertEqual(len(UP_TO_97), 25)
        for number in range(98):
            with self.subTest(number=number):
                self.assertIs(is_prime(number), number in UP_TO_97)

    def test_none_beyond_97(self):
        for number in list(range(98, 1000)) + [97 * 97, 10 ** 9 + 7, 2 ** 127 - 1, 10 ** 60, great(1000, 2)]:
            self.assertIs(is_prime(number), False)

    def test_none_below_0(self):
        for number in list(range(-200, 0)) + [-10 ** 60, -great(1000, 3)]:
            self.assertIs(is_prime(number), False)

    def test_true_and_false_and_things_of_other_kinds_are_none(self):
        for number, thing in enumerate(no_whole_numbers()):
            with self.subTest(number=number):
                self.assertIs(is_prime(thing), False)


class Exponent(unittest.TestCase):
    def test_small_numbers_of_either_sign(self):
        for p in UP_TO_97:
            for number in list(range(-300, 0)) + list(range(1, 300)):
                times = exponent(p, number)
                self.assertIs(type(times), int)
                self.assertEqual(number % p ** times, 0)
                self.assertNotEqual(number % p ** (times + 1), 0)

    def test_told_ones(self):
        self.assertEqual(exponent(2, 1), 0)
        self.assertEqual(exponent(2, -1), 0)
        self.assertEqual(exponent(2, 48), 4)
        self.assertEqual(exponent(3, -54), 3)
        self.assertEqual(exponent(97, 97), 1)
        self.assertEqual(exponent(5, 10 ** 60), 60)

    def test_each_count_of_times(self):
        for p in (2, 3, 7, 97):
            for times in range(140):
                for rest in (1, -1, p + 1, -(p * p - 1)):
                    self.assertEqual(exponent(p, rest * p ** times), times)

    def test_numbers_of_a_thousand_figures(self):
        for p, most in ((2, 3321), (3, 2095), (10 - 3, 1183), (97, 503)):
            self.assertLess(p ** most, 10 ** 1000)
            for times in (0, 1, most // 2, most - 1, most):
                self.assertEqual(exponent(p, p ** times), times)
                self.assertEqual(exponent(p, -(p ** times)), times)
            number = great(1000 - len(str(p ** 200)), p)
            number += 1 if number % p == 0 else 0
            self.assertEqual(exponent(p, number * p ** 200), 200)
            self.assertEqual(exponent(p, -number * p ** 200), 200)

    def test_asked_again_it_answers_alike(self):
        self.assertEqual([exponent(3, 162) for asked in range(3)], [4, 4, 4])


class Power(unittest.TestCase):
    def test_small_ones(self):
        for p in list(range(-12, 13)) + [97, 10 ** 59 + 1, -(10 ** 59)]:
            for times in range(40):
                power = power_of(p, times)
                self.assertIs(type(power), int)
                self.assertEqual(power, p ** times)

    def test_no_times_is_one(self):
        for p in [0, 1, -1, great(1000, 4)] + UP_TO_97:
            self.assertEqual(power_of(p, 0), 1)

    def test_great_ones(self):
        for p in UP_TO_97:
            for times in (255, 256, 257, 1499, 4000):
                self.assertEqual(power_of(p, times), p ** times)
        number = great(1000, 5)
        self.assertEqual(power_of(number, 1), number)
        self.assertEqual(power_of(-number, 3), -number * number * number)

    def test_times_of_sixty_figures(self):
        times = great(60, 6) // 2 * 2
        for odd in (0, 1):
            self.assertEqual(power_of(0, times + odd), 0)
            self.assertEqual(power_of(1, times + odd), 1)
            self.assertEqual(power_of(-1, times + odd), -1 if odd else 1)

    def test_asked_again_it_answers_alike(self):
        self.assertEqual([power_of(5, 4) for asked in range(3)], [625, 625, 625])


if __name__ == "__main__":
    unittest.main()
