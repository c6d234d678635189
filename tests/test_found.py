import unittest
from fractions import Fraction
from math import gcd, isqrt

from leftnumbers.errors import LeftError, NoSize, TooFew
from leftnumbers.found import found_again
from leftnumbers.lefts import begins_fraction
from leftnumbers.powers import raised
from leftnumbers.products import multiplied
from leftnumbers.quotients import divided
from leftnumbers.seen import seen_left, size_of
from things import (
    FAR, as_tuple, begins, every_left, figures_of, great, great_figures, left_of, long_ones, no_whole_numbers,
    times_in, unit,
)

PRIMES = (2, 3, 7, 97)
POWERS = (-400, -37, -1, 0, 1, 37, 400)


def size(p, part):
    core = part / Fraction(p) ** times_in(p, part)
    return max(abs(core.numerator), core.denominator)


def greatest_size(one):
    """The greatest size whose square, two times, is less than the power of the known figures."""
    return isqrt((one[0] ** len(one[2]) - 1) // 2)


def figures_needed(p, most):
    many = 0
    while p ** many <= 2 * most * most:
        many += 1
    return many


def small_parts(p):
    tops = [1, -1, 2, -2, 3, -3, 5, -8, 12, -13, 36, -55, 97, -100, 1001]
    bottoms = [1, 2, 3, 4, 5, 7, 9, 10, 97, 128, 999]
    return sorted({Fraction(top, bottom) for top in tops for bottom in bottoms})


def great_parts(p):
    return [Fraction(sign * great(30, seed), great(30, seed + 9)) for seed in (1, 2, 3) for sign in (1, -1)] + [
        Fraction(great(30, 4)), Fraction(-1, great(30, 5)), Fraction(-great(30, 6)), Fraction(1, great(30, 7)),
        Fraction(7, great(30, 8)), Fraction(-great(30, 9), 10)]


def seen_with(p, part, many):
    return left_of(p, part, times_in(p, part) + many)


def sizes_up_to(most):
    """Sizes from 1 to the greatest one, close together at both ends."""
    between = [most * k // 7 for k in range(1, 7)] + [isqrt(most), isqrt(isqrt(most)), 10 * isqrt(most)]
    told = list(range(1, 12)) + between + list(range(most - 3, most + 1))
    return sorted({bound for bound in told if 1 <= bound <= most})


def by_hand(one, bound):
    """Every fraction of at most that size, not nought, that begins with a left number."""
    p, least, figures = one
    told = []
    for bottom in range(1, bound + 1):
        for top in range(-bound, bound + 1):
            if top % p and bottom % p and gcd(top, bottom) == 1:
                part = Fraction(top, bottom) * Fraction(p) ** least
                if begins(part, one):
                    told.append(part)
    return told


class Checked(unittest.TestCase):
    def check_paper(self, one, bound, paper):
        self.assertEqual([type(paper)] + [type(pair) for pair in paper], [tuple] * 3)
        self.assertEqual([len(paper)] + [len(pair) for pair in paper], [2] * 3)
        (r, s), (v, w) = paper
        self.assertEqual({type(number) for number in (r, s, v, w)}, {int})
        power = one[0] ** len(one[2])
        u = unit(one)
        self.assertEqual((r - u * s) % power, 0)
        self.assertEqual((v - u * w) % power, 0)
        self.assertEqual(abs(r * w - v * s), power)
        self.assertLessEqual(s * w, 0)
        self.assertGreater(r, bound)
        self.assertTrue(0 <= v <= bound)
        self.assertTrue(abs(w) > bound or w % one[0] == 0)

    def check_fraction(self, one, bound, told):
        self.assertEqual([type(told), len(told)] + [type(number) for number in told], [tuple, 2, int, int])
        p, least, figures = one
        self.assertEqual((gcd(*told), told[0] % p ** max(least, 0), told[1] % p ** max(-least, 0)), (1, 0, 0))
        top, bottom = told[0] // p ** max(least, 0), told[1] // p ** max(-least, 0)
        self.assertTrue(1 <= abs(top) <= bound and 1 <= bottom <= bound)
        self.assertTrue(top % p and bottom % p)
        self.assertEqual((top - bottom * unit(one)) % p ** len(figures), 0)

    def check(self, one, bound):
        """Either answer is proved by itself: the fraction by its figures, the paper by its properties."""
        told = found_again(one, bound)
        self.assertEqual((type(told), len(told)), (tuple, 2))
        self.assertIn(told[0], ("fraction", "none"))
        if told[0] == "none":
            self.check_paper(one, bound, told[1])
        else:
            self.check_fraction(one, bound, told[1])
        return told[0]


class ToldOnes(Checked):
    def test_told_fractions(self):
        self.assertEqual(found_again((7, 0, (5, 4, 4)), 3), ("fraction", (1, 3)))
        self.assertEqual(found_again((7, 0, (5, 4, 4)), 13), ("fraction", (1, 3)))
        self.assertEqual(found_again((7, 2, (5, 4, 4)), 3), ("fraction", (49, 3)))
        self.assertEqual(found_again((7, -2, (5, 4, 4)), 3), ("fraction", (1, 147)))
        self.assertEqual(found_again((7, 0, (6, 6)), 1), ("fraction", (-1, 1)))
        self.assertEqual(found_again((7, -3, (6, 6)), 1), ("fraction", (-1, 343)))
        self.assertEqual(found_again((3, 0, (1,)), 1), ("fraction", (1, 1)))
        self.assertEqual(found_again((3, 0, (2,)), 1), ("fraction", (-1, 1)))
        self.assertEqual(found_again((2, 0, (1, 0)), 1), ("fraction", (1, 1)))
        self.assertEqual(found_again((2, 5, (1, 1)), 1), ("fraction", (-32, 1)))
        self.assertEqual(found_again((7, 0, (3, 0)), 3), ("fraction", (3, 1)))

    def test_told_papers(self):
        for one, bound in (((7, 0, (5, 4, 4)), 2), ((7, 0, (5, 4, 4)), 1), ((7, 0, (3, 0)), 2), ((7, 5, (3, 0)), 1)):
            self.assertEqual(self.check(one, bound), "none")

    def test_where_the_prime_divides_the_lower_bottom(self):
        # By 64 the pair (2, 2) begins so, but not the fraction 1 that it would come to.
        one = (2, 0, (1, 0, 0, 0, 0, 1))
        for bound in (2, 3, 4, 5):
            self.assertEqual(self.check(one, bound), "none")
        self.assertFalse(begins(Fraction(1), one))


class FoundAgain(Checked):
    def check_part(self, p, part, times):
        whole = part * Fraction(p) ** times
        own = size(p, whole)
        self.assertEqual(own, size_of(p, as_tuple(whole)))
        many = figures_needed(p, own)
        for more in (0, 1, 2, 10):
            one = seen_with(p, whole, many + more)
            most = greatest_size(one)
            for bound in {own, min(own + 1, most), (own + most) // 2, most}:
                self.assertEqual(found_again(one, bound), ("fraction", as_tuple(whole)))
            for bound in {own - 1, (own + 1) // 2, 1}:
                if 1 <= bound < own:
                    self.assertEqual(self.check(one, bound), "none")

    def test_small_ones(self):
        for p in PRIMES:
            for part in small_parts(p):
                self.check_part(p, part, 0)

    def test_small_ones_times_powers_of_the_prime(self):
        for p in PRIMES:
            for part in small_parts(p)[::9]:
                for times in POWERS:
                    self.check_part(p, part, times)

    def test_tops_and_bottoms_of_thirty_figures(self):
        for p in PRIMES:
            for part in great_parts(p):
                for times in POWERS:
                    self.check_part(p, part, times)

    def test_tops_and_bottoms_of_hundreds_of_figures(self):
        for p, figures in ((2, 220), (3, 350), (97, 1000)):
            part = Fraction(-great(figures, 1), great(figures, 2))
            for times in (-1000, 0, 1000):
                whole = part * Fraction(p) ** times
                one = seen_with(p, whole, 1500)
                for bound in (size(p, whole), greatest_size(one)):
                    self.assertEqual(found_again(one, bound), ("fraction", as_tuple(whole)))
                for bound in (size(p, whole) - 1, 1, great(60, 1)):
                    self.assertEqual(self.check(one, bound), "none")

    def test_from_1500_figures(self):
        for p in PRIMES:
            for part in small_parts(p)[::20] + great_parts(p)[::4]:
                one = seen_with(p, part, 1500)
                for bound in (size(p, part), great(60, 3), greatest_size(one)):
                    self.assertEqual(found_again(one, bound), ("fraction", as_tuple(part)))
                for bound in {1, size(p, part) - 1}:
                    if 1 <= bound < size(p, part):
                        self.assertEqual(self.check(one, bound), "none")

    def test_far_least_places(self):
        for p in PRIMES:
            for part in (Fraction(1), Fraction(-5, 11), Fraction(-1, 8), Fraction(13, 12)):
                core = part / Fraction(p) ** times_in(p, part)
                many = figures_needed(p, size(p, core))
                for least in (-4000, 4000 - many):
                    one = (p, least, seen_with(p, core, many)[2])
                    whole = core * Fraction(p) ** least
                    self.assertEqual(found_again(one, size(p, core)), ("fraction", as_tuple(whole)))

    def test_seen_ones(self):
        for p in PRIMES:
            for part in great_parts(p) + small_parts(p)[::10]:
                one = seen_left(p, as_tuple(part), 250)
                self.assertEqual(found_again(one, size(p, part)), ("fraction", as_tuple(part)))


class EitherAnswer(Checked):
    def test_every_one_of_few_figures(self):
        ones = every_left(2, (-1, 0), 8) + every_left(3, (2,), 4) + every_left(7, (0,), 2) + every_left(97, (-3,), 1)
        for one in ones:
            for bound in range(1, greatest_size(one) + 1):
                self.check(one, bound)

    def test_of_one_figure(self):
        for p in (3, 5, 7, 11, 53, 97):
            for figure in range(1, p):
                for least in (-4000, 0, 3999):
                    for bound in range(1, greatest_size((p, least, (figure,))) + 1):
                        self.check((p, least, (figure,)), bound)

    def test_of_forty_figures(self):
        for p in PRIMES + (5, 11, 89):
            rows = [great_figures(p, 40, seed) for seed in range(12)]
            rows += [(p - 1,) * 40, (1,) + (p - 1,) * 39, (p - 1,) * 39 + (0,), (p - 1,) * 20 + (1,) + (p - 1,) * 19]
            rows += [(1,) + (0,) * 39, (1,) + (0,) * 38 + (1,), (p - 1,) * 5 + (p // 2,) + (p - 1,) * 34]
            for row in rows:
                for bound in sizes_up_to(greatest_size((p, 0, row))):
                    self.check((p, -20, row), bound)

    def test_of_1500_figures(self):
        for p in PRIMES:
            rows = [one[2] for one in long_ones(p)[:-1]]
            rows += [(p - 1,) * 700 + (p // 2,) + (p - 1,) * 799, (p - 1,) * 1499 + (0,), (1,) + (0,) * 1498 + (1,)]
            for row in rows:
                for bound in sizes_up_to(greatest_size((p, 0, row)))[::3]:
                    self.check((p, -4000, row), bound)

    def test_both_answers_are_told(self):
        for p in PRIMES:
            words = [self.check((p, 0, figures_of(p, 1 + p * k, 9)), 5 if p == 2 else 8) for k in range(100)]
            self.assertEqual(set(words), {"fraction", "none"})

    def test_every_fraction_of_a_small_size_by_hand(self):
        ones = every_left(2, (-2, 3), 8) + every_left(3, (-1,), 5) + every_left(5, (0,), 3) + every_left(7, (1,), 3)
        ones += every_left(97, (0,), 1) + [(97, 2, figures_of(97, 1 + 97 * k, 2)) for k in range(0, 97, 5)]
        ones += [seen_with(p, part, 40) for p in PRIMES for part in small_parts(p)[::15]]
        for one in ones:
            for bound in {min(greatest_size(one), 8), min(greatest_size(one), 5), 1}:
                if 1 <= bound <= greatest_size(one):
                    self.check_by_hand(one, bound)

    def check_by_hand(self, one, bound):
        parts = by_hand(one, bound)
        self.assertLessEqual(len(parts), 1)
        told = found_again(one, bound)
        if parts:
            self.assertEqual(told, ("fraction", as_tuple(parts[0])))
        else:
            self.assertEqual(told[0], "none")
            self.check_paper(one, bound, told[1])

    def test_the_greatest_figure_all_along_is_one_below_nought(self):
        for p in PRIMES:
            for many in (2, 40, 1500):
                for least in (-3, 0, 8):
                    whole = -Fraction(p) ** least
                    self.assertEqual(found_again((p, least, (p - 1,) * many), 1), ("fraction", as_tuple(whole)))


class Refusals(Checked):
    def test_the_greatest_size_and_the_next_one(self):
        for p in (2, 3, 5, 7, 53, 97):
            for many in (1, 2, 3, 4, 9, 40, 1500):
                one = (p, -7, great_figures(p, many, many))
                most = greatest_size(one)
                self.assertTrue(2 * most * most < p ** many <= 2 * (most + 1) * (most + 1))
                if most >= 1:
                    self.check(one, most)
                for bound in (most + 1, most + 2, 2 * most + 2):
                    with self.assertRaises(TooFew):
                        found_again(one, bound)

    def test_two_times_the_square_is_less_not_like(self):
        # 2 times 4 times 4 is 32, five figures of 2: one more is needed.
        with self.assertRaises(TooFew):
            found_again((2, 0, (1, 0, 0, 0, 0)), 4)
        self.assertEqual(found_again((2, 0, (1, 0, 0, 0, 0)), 3), ("fraction", (1, 1)))
        self.assertEqual(found_again((2, 0, (1, 0, 0, 0, 0, 0)), 4), ("fraction", (1, 1)))

    def test_the_one_figure_of_2(self):
        for least in (-3, 0, 5):
            with self.assertRaises(TooFew):
                found_again((2, least, (1,)), 1)

    def test_bare_ones(self):
        for p in PRIMES:
            for least in (-4000, -1, 0, 1, 4000, FAR, -FAR):
                for bound in (1, 2, 10 ** 60):
                    with self.assertRaises(TooFew):
                        found_again((p, least, ()), bound)

    def test_no_size(self):
        for thing in [0, -1, -2, -10 ** 60] + no_whole_numbers():
            for one in ((7, 0, (5, 4, 4)), (7, 3, ()), (2, 0, (1,)), (97, -4000, (96,) * 40)):
                with self.assertRaises(NoSize):
                    found_again(one, thing)
                with self.assertRaises(LeftError):
                    found_again(one, thing)

    def test_a_size_below_0_is_not_squared(self):
        with self.assertRaises(NoSize):
            found_again((7, 0, (5, 4, 4)), -10 ** 50)


class Deeds(unittest.TestCase):
    def test_of_two_seen_fractions(self):
        parts = [Fraction(3, 4), Fraction(-7, 9), Fraction(1, 98), Fraction(-54, 5), Fraction(great(8, 1), 970)]
        for p in PRIMES:
            for part in parts:
                for far in parts:
                    one = seen_left(p, as_tuple(part), 120)
                    other = seen_left(p, as_tuple(far), 120)
                    for told, whole in ((divided(one, other), part / far), (multiplied(one, other), part * far)):
                        self.assertEqual(found_again(told, size(p, whole)), ("fraction", as_tuple(whole)))

    def test_of_powers(self):
        for p in PRIMES:
            for part in (Fraction(3, 4), Fraction(-7, 9), Fraction(1, 98), Fraction(-54, 5)):
                one = seen_left(p, as_tuple(part), 120)
                for n in (1, 2, 3, 4, 7):
                    told = raised(one, n)
                    whole = part ** n
                    self.assertEqual(found_again(told, size(p, whole)), ("fraction", as_tuple(whole)))
                    self.assertIs(begins_fraction(told, as_tuple(whole)), True)


class AskedAgain(unittest.TestCase):
    def test_the_same_is_answered_alike(self):
        one = (7, 0, (5, 4, 4))
        first = [found_again(one, bound) for bound in range(1, 14)]
        for asked in range(3):
            self.assertEqual([found_again(one, bound) for bound in range(1, 14)], first)
        self.assertEqual(one, (7, 0, (5, 4, 4)))


if __name__ == "__main__":
    unittest.main()
