import unittest
from fractions import Fraction

from leftnumbers.errors import LeftError, NoPolynomial
from leftnumbers.polys import is_poly, product_of, slope_of, worth_at
from things import Odd, as_tuple, great, no_polys, worth

PARTS = [Fraction(0), Fraction(1), Fraction(-1), Fraction(2), Fraction(-7), Fraction(1, 2), Fraction(-3, 4),
         Fraction(5, 9), Fraction(-97, 6), Fraction(1, 10 ** 30), Fraction(great(60, 1), great(60, 2)),
         Fraction(-great(60, 3), great(59, 4)), Fraction(-great(60, 5))]


def lists_of_numbers():
    """Lists of 1 to 9 whole numbers, small and of sixty figures, with noughts and numbers below 0 among them."""
    rows = [[0], [5], [-great(60, 1)], [0, 1], [1, -2], [0, 0, 3], [6, -5, 1], [-1, 0, 0, 0, 1], [0] * 8 + [1]]
    for many in range(1, 10):
        rows.append([great(60, many + k) * (-1) ** k for k in range(many)])
        rows.append([k - 4 for k in range(many - 1)] + [-3])
    return rows


def polys():
    return [row for row in lists_of_numbers() if len(row) > 1]


class IsPoly(unittest.TestCase):
    def test_polynomials(self):
        for poly in polys() + [[0, 1], [0, -1], [-1, 1], [10 ** 60, 10 ** 60], [0] * 8 + [-1], [1] * 9]:
            self.assertIs(is_poly(poly), True)

    def test_by_their_length(self):
        for many in range(14):
            self.assertIs(is_poly([1] * many), 2 <= many <= 9)

    def test_the_last_number(self):
        for many in range(1, 9):
            self.assertIs(is_poly([1] * many + [0]), False)
            self.assertIs(is_poly([0] * many + [1]), True)

    def test_other_things(self):
        for thing in no_polys():
            self.assertIs(is_poly(thing), False)

    def test_truths_are_no_numbers(self):
        for poly in ([True, 1], [1, True], [False, 1], [1, False, 1], [1, 2, True]):
            self.assertIs(is_poly(poly), False)

    def test_nothing_is_changed(self):
        poly = [1, 2, 3]
        self.assertIs(is_poly(poly), True)
        self.assertEqual(poly, [1, 2, 3])


class WorthAt(unittest.TestCase):
    def test_told_ones(self):
        self.assertEqual(worth_at([6, -5, 1], (2, 1)), (0, 1))
        self.assertEqual(worth_at([6, -5, 1], (0, 1)), (6, 1))
        self.assertEqual(worth_at([6, -5, 1], (1, 2)), (15, 4))
        self.assertEqual(worth_at([6, -5, 1], (-1, 2)), (35, 4))
        self.assertEqual(worth_at([-1, 3], (1, 3)), (0, 1))
        self.assertEqual(worth_at([0, 2], (1, 2)), (1, 1))
        self.assertEqual(worth_at([1, 0, 4], (3, 2)), (10, 1))
        self.assertEqual(worth_at([5], (3, 2)), (5, 1))
        self.assertEqual(worth_at([0], (3, 2)), (0, 1))

    def test_against_fractions(self):
        for poly in lists_of_numbers():
            for part in PARTS:
                told = worth_at(poly, as_tuple(part))
                self.assertEqual(told, as_tuple(Fraction(worth(poly, part))))
                self.assertEqual([type(told)] + [type(number) for number in told], [tuple, int, int])

    def test_tops_and_bottoms_of_a_thousand_figures(self):
        part = Fraction(-great(1000, 1), great(1000, 2))
        for poly in lists_of_numbers()[-4:]:
            self.assertEqual(worth_at(poly, as_tuple(part)), as_tuple(Fraction(worth(poly, part))))

    def test_of_a_slope_of_one_number(self):
        for part in PARTS:
            self.assertEqual(worth_at(slope_of([4, -9]), as_tuple(part)), (-9, 1))

    def test_nothing_is_changed(self):
        poly = [1, 2, 3]
        for asked in range(3):
            self.assertEqual(worth_at(poly, (1, 2)), (11, 4))
        self.assertEqual(poly, [1, 2, 3])


class SlopeOf(unittest.TestCase):
    def test_told_ones(self):
        self.assertEqual(slope_of([4, -9]), [-9])
        self.assertEqual(slope_of([6, -5, 1]), [-5, 2])
        self.assertEqual(slope_of([7, 0, 0, 5]), [0, 0, 15])
        self.assertEqual(slope_of([1] * 9), [1, 2, 3, 4, 5, 6, 7, 8])
        self.assertEqual(slope_of([0] * 8 + [-great(60, 1)]), [0] * 7 + [-8 * great(60, 1)])

    def test_by_the_rule(self):
        for poly in polys():
            told = slope_of(poly)
            self.assertEqual((type(told), len(told)), (list, len(poly) - 1))
            self.assertEqual(told, [k * number for k, number in enumerate(poly)][1:])

    def test_of_a_product(self):
        for poly, other in PAIRS:
            for part in PARTS[:9]:
                slopes = worth(slope_of(poly), part) * worth(other, part)
                slopes += worth(poly, part) * worth(slope_of(other), part)
                self.assertEqual(worth_at(slope_of(product_of(poly, other)), as_tuple(part)), as_tuple(slopes))

    def test_refused(self):
        for thing in no_polys():
            with self.assertRaises(NoPolynomial):
                slope_of(thing)
        with self.assertRaises(LeftError):
            slope_of([1])

    def test_told_lists_belong_to_the_asker(self):
        poly = [6, -5, 1]
        told = slope_of(poly)
        told.append(99)
        told[0] = 77
        self.assertEqual(poly, [6, -5, 1])
        self.assertEqual(slope_of(poly), [-5, 2])


PAIRS = [(poly, other) for poly in polys() for other in polys() if len(poly) + len(other) <= 10]


class ProductOf(unittest.TestCase):
    def test_told_ones(self):
        self.assertEqual(product_of([-2, 1], [-3, 1]), [6, -5, 1])
        self.assertEqual(product_of([1, 1], [-1, 1]), [-1, 0, 1])
        self.assertEqual(product_of([1, 2], [0, 0, 3]), [0, 0, 3, 6])
        self.assertEqual(product_of([1, 1], [1, 1]), [1, 2, 1])
        self.assertEqual(product_of([0, 1], [5] * 8), [0] + [5] * 8)

    def test_against_worths(self):
        for poly, other in PAIRS:
            told = product_of(poly, other)
            self.assertEqual((type(told), len(told)), (list, len(poly) + len(other) - 1))
            for part in PARTS[:10]:
                self.assertEqual(worth(told, part), worth(poly, part) * worth(other, part))

    def test_both_ways_round(self):
        for poly, other in PAIRS:
            self.assertEqual(product_of(poly, other), product_of(other, poly))

    def test_of_one_by_itself(self):
        for poly in polys():
            if len(poly) <= 5:
                kept = list(poly)
                told = product_of(poly, poly)
                self.assertEqual(poly, kept)
                for part in PARTS[:10]:
                    self.assertEqual(worth(told, part), worth(poly, part) ** 2)

    def test_refused_at_either_place(self):
        for thing in no_polys():
            with self.assertRaises(NoPolynomial):
                product_of(thing, [1, 1])
            with self.assertRaises(NoPolynomial):
                product_of([1, 1], thing)
            with self.assertRaises(NoPolynomial):
                product_of(thing, thing)
        with self.assertRaises(NoPolynomial):
            product_of([Odd(), 1], Odd())

    def test_told_lists_belong_to_the_asker(self):
        poly = [1, 1]
        other = [2, 0, 1]
        told = product_of(poly, other)
        told.append(99)
        told[0] = 77
        self.assertEqual((poly, other), ([1, 1], [2, 0, 1]))
        self.assertEqual(product_of(poly, other), [2, 2, 1, 1])


if __name__ == "__main__":
    unittest.main()
