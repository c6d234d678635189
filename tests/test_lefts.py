import copy
import unittest
from fractions import Fraction

from leftnumbers.errors import LeftError, NoFigures, NoPlace, NoPrime
from leftnumbers.lefts import (
    amount_of, begins_fraction, end_of, is_left, known_of, left_number, of_whole, unit_of,
)
from things import Odd, amount, begins, every_left, great, great_figures, left_of, no_whole_numbers, parts_of

FAR = 10 ** 30
PRIMES = (2, 3, 5, 7, 89, 97)


def pair(part):
    return (part.numerator, part.denominator)


class Checks(unittest.TestCase):
    def assert_left(self, told, left):
        """Equal, and of the very kinds: True is equal to 1, and is none."""
        self.assertEqual(told, left)
        self.assertEqual([type(thing) for thing in told], [int, int, tuple])
        self.assertTrue(all(type(figure) is int for figure in told[2]))


class Making(Checks):
    def test_of_lists_and_of_tuples(self):
        for kind in (list, tuple):
            self.assert_left(left_number(7, -2, kind([4, 0, 3])), (7, -2, (4, 0, 3)))
            self.assert_left(left_number(2, 0, kind([1])), (2, 0, (1,)))
            self.assert_left(left_number(97, 5, kind([96, 0, 0])), (97, 5, (96, 0, 0)))

    def test_noughts_first_are_left_out(self):
        for kind in (list, tuple):
            self.assert_left(left_number(7, -2, kind([0, 4, 0, 3])), (7, -1, (4, 0, 3)))
            self.assert_left(left_number(7, -2, kind([0, 0, 0, 3, 0])), (7, 1, (3, 0)))
            self.assert_left(left_number(2, 5, kind([0, 0, 1])), (2, 7, (1,)))

    def test_noughts_alone_make_a_bare_one(self):
        for kind in (list, tuple):
            for many in (1, 2, 3, 1500):
                for least in (-3, -1, 0, 1, 10, FAR - 1500, -FAR):
                    self.assert_left(left_number(5, least, kind([0] * many)), (5, least + many, ()))

    def test_no_figures_make_a_bare_one(self):
        for p in PRIMES:
            for least in (0, 1, -1, 2, -2, FAR, -FAR):
                self.assert_left(left_number(p, least, []), (p, least, ()))
                self.assert_left(left_number(p, least, ()), (p, least, ()))

    def test_far_places(self):
        for least in (FAR, -FAR, FAR - 1, 1 - FAR):
            self.assert_left(left_number(3, least, [0, 0, 2, 1]), (3, least + 2, (2, 1)))
            self.assert_left(left_number(3, least, (2, 1)), (3, least, (2, 1)))

    def test_as_many_figures_as_the_bounds_let(self):
        for p in PRIMES:
            figures = great_figures(p, 1500, p)
            self.assert_left(left_number(p, -700, figures), (p, -700, figures))
            behind = (0,) * 750 + figures[:750]
            self.assert_left(left_number(p, -700, list(behind)), (p, 50, figures[:750]))

    def test_what_is_a_left_number_comes_out_as_it_is(self):
        for one in every_left(3, range(-2, 3), 4):
            self.assert_left(left_number(*one), one)

    def test_by_the_names_of_the_arguments(self):
        self.assert_left(left_number(figures=[1, 2], least=3, p=5), (5, 3, (1, 2)))

    def test_what_was_handed_in_stands_unchanged(self):
        figures = [0, 0, 1, 0, 2]
        first = left_number(3, 4, figures)
        self.assertEqual(figures, [0, 0, 1, 0, 2])
        figures[2] = 2
        figures.append(1)
        self.assert_left(first, (3, 6, (1, 0, 2)))
        self.assert_left(left_number(3, 4, figures), (3, 6, (2, 0, 2, 1)))

    def test_asked_again_it_answers_alike(self):
        figures = [0, 3, 1]
        told = [left_number(5, -1, figures) for asked in range(3)]
        self.assertEqual(told, [(5, 0, (3, 1))] * 3)
        self.assertEqual(figures, [0, 3, 1])


NO_PRIMES = [0, 1, -2, -7, 4, 9, 91, 98, 101, 10 ** 60]
NO_FIGURES = [
    [7], [-1], [1, 7], [1, -1], [0, 0, 8], [1, 2, True], [False], [0, False], (True,), (1, False, 2), [1, None],
    ["1"], [1, "2"], [1.0], [1, 0.0], [[1]], [(1,)], [10 ** 60], [-(10 ** 60)], [1, Odd()], (7,), (-1,), ((1,),),
    (1, "2"), (None,),
]


def no_lists():
    return [thing for thing in no_whole_numbers() if not isinstance(thing, (list, tuple))] + [1, 0, 10, "12", "0"]


class Refusing(unittest.TestCase):
    def test_no_prime(self):
        for number, thing in enumerate(NO_PRIMES + no_whole_numbers()):
            with self.subTest(number=number):
                with self.assertRaises(NoPrime):
                    left_number(thing, 0, [])

    def test_no_place(self):
        for number, thing in enumerate(no_whole_numbers()):
            with self.subTest(number=number):
                with self.assertRaises(NoPlace):
                    left_number(7, thing, [])
                with self.assertRaises(NoPlace):
                    left_number(7, thing, [0, 0, 1])

    def test_no_figures(self):
        for number, thing in enumerate(NO_FIGURES + no_lists()):
            with self.subTest(number=number):
                with self.assertRaises(NoFigures):
                    left_number(7, 0, thing)

    def test_a_figure_of_p_and_one_below_0(self):
        for p in PRIMES:
            self.assertEqual(left_number(p, 0, [p - 1]), (p, 0, (p - 1,)))
            for figure in (p, p + 1, -1, -p):
                for figures in ([figure], (figure,), [0, figure], [1, figure], [figure, 1], [1] * 1499 + [figure]):
                    with self.assertRaises(NoFigures):
                        left_number(p, 0, figures)

    def test_each_kind_of_thing_as_a_figure(self):
        for number, thing in enumerate(no_whole_numbers()):
            with self.subTest(number=number):
                for figures in ([thing], (thing,), [1, thing], [0, thing], (thing, 1)):
                    with self.assertRaises(NoFigures):
                        left_number(7, 0, figures)

    def test_the_prime_goes_first(self):
        for p in (4, 1, 0, True, None, "7", 7.0, Odd()):
            for least in (0, None, True, "0", Odd()):
                for figures in ([], [1], [7], [-1], "12", None, [True], Odd()):
                    with self.assertRaises(NoPrime):
                        left_number(p, least, figures)

    def test_the_place_goes_ahead_of_the_figures(self):
        for least in (None, True, False, "0", 0.0, [], Odd()):
            for figures in ([7], [-1], "12", None, [True], 5, Odd(), [Odd()]):
                with self.assertRaises(NoPlace):
                    left_number(7, least, figures)

    def test_refusals_are_left_errors(self):
        for told in ((4, 0, []), (7, None, []), (7, 0, None)):
            with self.assertRaises(LeftError):
                left_number(*told)

    def test_nothing_is_changed_by_a_refusal(self):
        figures = [0, 1, [2], 7]
        for asked in range(2):
            with self.assertRaises(NoFigures):
                left_number(7, 0, figures)
        self.assertEqual(figures, [0, 1, [2], 7])


class Asking(unittest.TestCase):
    def test_left_numbers(self):
        for p in (2, 3):
            for one in every_left(p, (-FAR, -2, 0, 1, FAR), 3):
                self.assertIs(is_left(one), True)
        for one in ((97, 0, (96,)), (7, -2, (4, 0, 3)), (7, 5, ()), (2, 0, (1,) + (0,) * 1499)):
            self.assertIs(is_left(one), True)

    def test_a_first_figure_0(self):
        for figures in ((0,), (0, 1), (0, 0), (0, 6, 6), (0,) * 1500):
            self.assertIs(is_left((7, 0, figures)), False)

    def test_figures_that_are_in_no_tuple(self):
        for thing in ([], [1], [1, 2], "1", "", None, 1, 0, {1: 1}, {1}, range(1, 3), b"\x01", Odd()):
            self.assertIs(is_left((7, 0, thing)), False)

    def test_a_figure_out_of_bounds(self):
        for p in PRIMES:
            for figure in (p, p + 1, -1, -p, 10 ** 60, -(10 ** 60)):
                for figures in ((figure,), (1, figure), (figure, 1), (1, 0, figure, 1), (1,) * 1499 + (figure,)):
                    self.assertIs(is_left((p, 0, figures)), False)
            self.assertIs(is_left((p, 0, (p - 1, 0, p - 1))), True)

    def test_a_truth_in_any_place(self):
        things = (
            (True, 0, ()), (False, 0, ()), (7, True, ()), (7, False, ()), (7, True, (1,)), (7, 0, True), (7, 0, False),
            (7, 0, (True,)), (7, 0, (1, True)), (7, 0, (1, False)), (7, 0, (False, 1)), (2, 0, (True, 0, 1)),
        )
        for thing in things:
            self.assertIs(is_left(thing), False)

    def test_no_prime(self):
        for number, thing in enumerate(NO_PRIMES + no_whole_numbers()):
            with self.subTest(number=number):
                self.assertIs(is_left((thing, 0, ())), False)
                self.assertIs(is_left((thing, 0, (1,))), False)

    def test_no_place(self):
        for number, thing in enumerate(no_whole_numbers()):
            with self.subTest(number=number):
                self.assertIs(is_left((7, thing, ())), False)
                self.assertIs(is_left((7, thing, (1,))), False)

    def test_things_that_are_no_figures(self):
        for number, thing in enumerate(no_whole_numbers()):
            with self.subTest(number=number):
                self.assertIs(is_left((7, 0, (thing,))), False)
                self.assertIs(is_left((7, 0, (1, thing))), False)

    def test_parts_more_or_fewer(self):
        for thing in ((), (7,), (7, 0), (7, 0, (), ()), (7, 0, (1,), 0), (7, 0, 1, 2), ((7, 0, (1,)),)):
            self.assertIs(is_left(thing), False)

    def test_a_list_in_the_stead_of_the_tuple(self):
        for thing in ([7, 0, ()], [7, 0, (1,)], [7, 0, [1]], []):
            before = copy.deepcopy(thing)
            self.assertIs(is_left(thing), False)
            self.assertEqual(thing, before)

    def test_things_of_other_kinds(self):
        for number, thing in enumerate(no_whole_numbers() + [0, 7, "7 0 :", "abc", {7: 0, 0: (), 1: ()}, {1, 2, 3}]):
            with self.subTest(number=number):
                self.assertIs(is_left(thing), False)
        self.assertIs(is_left((Odd(), Odd(), Odd())), False)

    def test_what_is_made_is_one(self):
        for figures in ([], [0], [0, 0], [0, 6], [6, 0], [1, 0, 3], [0, 0, 5, 0]):
            self.assertIs(is_left(left_number(7, -1, figures)), True)


class Measures(unittest.TestCase):
    def test_of_bare_ones(self):
        for p in PRIMES:
            for least in (0, 1, -1, 5, FAR, -FAR):
                one = (p, least, ())
                self.assertEqual((end_of(one), known_of(one), unit_of(one)), (least, 0, 0))

    def test_told_ones(self):
        one = (7, -2, (4, 0, 3))
        self.assertEqual((end_of(one), known_of(one), unit_of(one)), (1, 3, 151))
        one = (2, 10, (1, 0, 0))
        self.assertEqual((end_of(one), known_of(one), unit_of(one)), (13, 3, 1))
        one = (97, -FAR, (96, 96))
        self.assertEqual((end_of(one), known_of(one), unit_of(one)), (2 - FAR, 2, 97 * 97 - 1))

    def test_every_small_one(self):
        for p in (2, 3, 5):
            for one in every_left(p, (-FAR, -1, 0, 2, FAR), 3):
                self.assertEqual(end_of(one), one[1] + len(one[2]))
                self.assertEqual(known_of(one), len(one[2]))
                self.assertEqual(unit_of(one), sum(figure * p ** k for k, figure in enumerate(one[2])))

    def test_long_ones(self):
        for p in PRIMES:
            one = (p, -FAR, great_figures(p, 1500, p + 1))
            self.assertEqual(end_of(one), 1500 - FAR)
            self.assertEqual(known_of(one), 1500)
            self.assertEqual(unit_of(one), sum(figure * p ** k for k, figure in enumerate(one[2])))


class OfWhole(Checks):
    def check(self, p, least, number, many):
        rest = number % p ** many
        figures = [rest // p ** k % p for k in range(many)]
        noughts = next((k for k, figure in enumerate(figures) if figure), many)
        self.assert_left(of_whole(p, least, number, many), (p, least + noughts, tuple(figures[noughts:])))

    def test_told_ones(self):
        self.assert_left(of_whole(7, 0, 151, 3), (7, 0, (4, 0, 3)))
        self.assert_left(of_whole(7, -2, 151, 5), (7, -2, (4, 0, 3, 0, 0)))
        self.assert_left(of_whole(7, 0, 151, 2), (7, 0, (4, 0)))
        self.assert_left(of_whole(7, 0, -1, 3), (7, 0, (6, 6, 6)))
        self.assert_left(of_whole(5, 1, -5, 3), (5, 2, (4, 4)))
        self.assert_left(of_whole(2, 3, 12, 4), (2, 5, (1, 1)))

    def test_small_numbers_of_either_sign(self):
        for p in (2, 3, 7):
            for number in range(-70, 71):
                for many in range(6):
                    for least in (-2, 0, 3):
                        self.check(p, least, number, many)

    def test_of_0(self):
        for p in PRIMES:
            for many in (0, 1, 5, 1500, FAR, 10 ** 59):
                for least in (0, -4, 7, -FAR):
                    self.assert_left(of_whole(p, least, 0, many), (p, least + many, ()))

    def test_a_count_of_0(self):
        for number in (0, 1, -1, 7, -7, 49, great(1000, 1), -great(1000, 2)):
            for least in (0, -3, 3, FAR, -FAR):
                self.assert_left(of_whole(7, least, number, 0), (7, least, ()))

    def test_first_figures_that_are_noughts(self):
        for p in (2, 5, 97):
            for times in (1, 2, 30, 31, 32, 100):
                for rest in (1, -1, p + 1, -p - 1, p * p - 1):
                    for many in (1, 2, 31, 32, 33, 105):
                        self.check(p, -7, rest * p ** times, many)

    def test_far_places(self):
        for least in (FAR, -FAR):
            self.assert_left(of_whole(3, least, 18, 4), (3, least + 2, (2, 0)))
            self.assert_left(of_whole(3, least, 18, 2), (3, least + 2, ()))
            self.assert_left(of_whole(3, least, -18, 4), (3, least + 2, (1, 2)))

    def test_numbers_of_a_thousand_figures(self):
        for p in (2, 97):
            for number in (great(1000, 3), -great(1000, 4), p ** 500, -(p ** 500), 10 ** 999):
                for many in (0, 1, 499, 500, 501, 1500):
                    self.check(p, -750, number, many)


class Amounts(Checks):
    def test_told_ones(self):
        self.assertEqual(amount_of((7, -2, (4, 0, 3))), (151, 49))
        self.assertEqual(amount_of((7, 0, (4, 0, 3))), (151, 1))
        self.assertEqual(amount_of((7, 2, (4, 0, 3))), (151 * 49, 1))
        self.assertEqual(amount_of((2, -1, (1,))), (1, 2))
        self.assertEqual(amount_of((2, -1, (1, 0, 0))), (1, 2))

    def test_of_bare_ones(self):
        for least in (0, 1, -1, 4000, -4000):
            self.assertEqual(amount_of((3, least, ())), (0, 1))

    def test_every_small_one(self):
        for p in (2, 3, 5):
            for one in every_left(p, range(-4, 5), 3):
                told = amount_of(one)
                self.assertEqual(told, pair(amount(one)))
                self.assertEqual([type(number) for number in told], [int, int])

    def test_at_the_bounds(self):
        for p in (2, 97):
            for least in (-4000, -1500, -1, 0, 2500):
                figures = great_figures(p, 1500, p + 2)
                value = sum(figure * p ** k for k, figure in enumerate(figures)) * Fraction(p) ** least
                self.assertEqual(amount_of((p, least, figures)), pair(value))


class BeginningFractions(unittest.TestCase):
    def test_told_ones(self):
        # A third, by 7, has the figures 5, 4, 4, 4, .. : 3 (5 + 4 * 7 + 4 * 49) is 1 + 2 * 343.
        self.assertIs(begins_fraction((7, 0, (5, 4, 4)), (1, 3)), True)
        self.assertIs(begins_fraction((7, 0, (5, 4, 5)), (1, 3)), False)
        self.assertIs(begins_fraction((7, 0, (4, 4, 4)), (1, 3)), False)
        self.assertIs(begins_fraction((7, -2, (5, 4, 4)), (1, 147)), True)
        self.assertIs(begins_fraction((7, -2, (5, 4, 4)), (1, 3)), False)
        self.assertIs(begins_fraction((2, 0, (1, 1, 1, 1)), (-1, 1)), True)
        self.assertIs(begins_fraction((2, 0, (1, 1, 1, 0)), (-1, 1)), False)

    def test_bare_ones(self):
        for p in (2, 7):
            for end in range(-4, 5):
                self.assertIs(begins_fraction((p, end, ()), (0, 1)), True)
                for shift in range(-3, 4):
                    for rest in (Fraction(1), Fraction(-1, p + 1), Fraction(p * p + 1, 2 * p - 1)):
                        part = pair(rest * Fraction(p) ** (end + shift))
                        self.assertIs(begins_fraction((p, end, ()), part), shift >= 0)

    def test_nought_begins_with_bare_ones_alone(self):
        for one in every_left(3, (-2, 0, 2), 2):
            self.assertIs(begins_fraction(one, (0, 1)), one[2] == ())

    def test_every_small_one_against_small_fractions(self):
        for p in (2, 3):
            parts = sorted({Fraction(top, bottom) for top in range(-7, 8) for bottom in range(1, 10)})
            for one in every_left(p, range(-2, 3), 3):
                for part in parts:
                    self.assertIs(begins_fraction(one, pair(part)), begins(part, one))

    def test_those_that_begin_and_one_figure_another(self):
        for p in (3, 7, 97):
            for least in (-3, 0, 4):
                one = (p, least, great_figures(p, 9, least + 9))
                for part in parts_of(one):
                    self.assertIs(begins_fraction(one, pair(part)), True)
                    for k in (0, 4, 8):
                        figure = one[2][k] % (p - 1) + 1
                        other = (p, least, one[2][:k] + (figure,) + one[2][k + 1:])
                        self.assertIs(begins_fraction(other, pair(part)), other == one)

    def test_just_one_left_number_with_each_end(self):
        for p in (2, 3):
            for part in (Fraction(5, 7), Fraction(-9, 8), Fraction(4, 27), Fraction(-6), Fraction(1, 36), Fraction(0)):
                for end in range(-2, 4):
                    found = [
                        one for one in every_left(p, range(-4, end + 1), 7)
                        if end_of(one) == end and begins_fraction(one, pair(part))
                    ]
                    self.assertEqual(found, [left_of(p, part, end)])

    def test_great_ones(self):
        for p in (2, 97):
            for least in (-4000, -700, 2500):
                # Tops and bottoms of a thousand figures; the prime goes into one of both.
                times = 300 if least > 0 else -300
                rest = Fraction(great(300, p) * p + 1, great(299, p + 1) * p + 1)
                part = rest * Fraction(p) ** times
                one = left_of(p, part, times + 1500)
                self.assertIs(begins_fraction(one, pair(part)), True)
                for k in (0, 1, 750, 1499):
                    figures = list(one[2])
                    figures[k] = (figures[k] + 1) % p if k else figures[k] % (p - 1) + 1
                    if tuple(figures) != one[2]:
                        self.assertIs(begins_fraction((p, one[1], tuple(figures)), pair(part)), False)
                self.assertIs(begins_fraction((p, least, one[2]), pair(part)), False)
                value = amount((p, least, one[2][:40]))
                self.assertIs(begins_fraction((p, least, one[2][:40]), pair(value)), True)
                self.assertIs(begins_fraction((p, 4000, ()), pair(part)), False)
                self.assertIs(begins_fraction((p, -4000, ()), pair(part)), True)

    def test_asked_again_it_answers_alike(self):
        self.assertEqual([begins_fraction((5, 0, (3, 2)), (1, 2)) for asked in range(3)], [True] * 3)


if __name__ == "__main__":
    unittest.main()
