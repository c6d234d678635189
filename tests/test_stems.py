import unittest

from leftnumbers.polys import is_poly, product_of
from leftnumbers.stems import seen_from
from things import great, great_figures, worth

PRIMES = (2, 3, 7, 97)


def polys(p):
    """Small and great ones, ones with noughts, and ones all of whose numbers p divides some times."""
    rows = [[0, 1], [-1, 1], [1, -p], [p, 1], [-2, 0, 1], [-p, 0, 1], [0, 0, 1], [1, 2, 3, 4], [0] * 8 + [1],
            product_of([-1, 1], [-1 - p ** 5, 1]), product_of([-1, 0, 1], [-1, 0, 1]),
            [great(60, k) * (-1) ** k for k in range(9)], [-1] + [0] * 7 + [p ** 20]]
    return rows + [[number * p ** times for number in row] for row in rows for times in (1, 4)]


def stems(p):
    rows = [(), (0,), (1,), (p - 1,), (0, 0), (0, 1), (1, 0), (p - 1, p - 1), (0, 0, 0, 0, 0), (p - 1,) * 40, (0,) * 40]
    return rows + [great_figures(p, many, many) for many in (3, 5, 12, 25, 39, 40)] + [(0,) * 39 + (1,)]


class SeenFrom(unittest.TestCase):
    def test_told_ones(self):
        self.assertEqual(seen_from(2, [-17, 0, 1], (1,)), (2, [-4, 1, 1]))
        self.assertEqual(seen_from(2, [-17, 0, 1], (1, 0)), (3, [-2, 1, 2]))
        self.assertEqual(seen_from(7, [-2, 0, 1], (3,)), (1, [1, 6, 7]))
        self.assertEqual(seen_from(7, [-7, 0, 1], (0,)), (1, [-1, 0, 7]))
        self.assertEqual(seen_from(3, [5, 1], (2, 1)), (0, [10, 9]))
        self.assertEqual(seen_from(3, [0, 1], (0, 0, 0)), (3, [0, 1]))
        self.assertEqual(seen_from(3, [0, 0, 5], (0, 0)), (4, [0, 0, 5]))

    def test_of_the_stem_without_figures(self):
        self.assertEqual(seen_from(7, [3, 14, 21], ()), (0, [3, 14, 21]))
        self.assertEqual(seen_from(7, [98, 0, 49], ()), (2, [2, 0, 1]))
        self.assertEqual(seen_from(2, [0, -8], ()), (3, [0, -1]))
        for p in PRIMES:
            for poly in polys(p):
                lift, seen = seen_from(p, poly, ())
                self.assertEqual([number * p ** lift for number in seen], poly)
                self.assertTrue(any(number % p for number in seen))

    def test_against_worths_at_whole_numbers(self):
        for p in PRIMES:
            for poly in polys(p):
                for stem in stems(p):
                    self.check(p, poly, stem)

    def check(self, p, poly, stem):
        told = seen_from(p, poly, stem)
        self.assertEqual((type(told), len(told)), (tuple, 2))
        lift, seen = told
        self.assertEqual((type(lift), type(seen), len(seen)), (int, list, len(poly)))
        self.assertTrue(any(number % p for number in seen))
        self.assertNotEqual(seen[-1], 0)
        self.assertIs(is_poly(seen), True)
        first = sum(figure * p ** place for place, figure in enumerate(stem))
        # Ten numbers: two polynomials of nine that are worth the same at nine places are the same.
        for z in range(-5, 5):
            self.assertEqual(worth(poly, first + p ** len(stem) * z), p ** lift * worth(seen, z))

    def test_numbers_all_divided_some_times_lift_as_often(self):
        for p in PRIMES:
            for poly in polys(p)[:13]:
                for stem in stems(p):
                    lift, seen = seen_from(p, poly, stem)
                    for times in (1, 2, 30):
                        more = seen_from(p, [number * p ** times for number in poly], stem)
                        self.assertEqual(more, (lift + times, seen))

    def test_seen_again_from_what_is_seen(self):
        for p in PRIMES:
            for poly in polys(p):
                for stem in stems(p):
                    for many in (0, 1, len(stem) // 2, len(stem)):
                        lift, seen = seen_from(p, poly, stem[:many])
                        more, farther = seen_from(p, seen, stem[many:])
                        self.assertEqual(seen_from(p, poly, stem), (lift + more, farther))

    def test_told_lists_belong_to_the_asker(self):
        for stem, told in (((), (0, [-17, 0, 1])), ((1,), (2, [-4, 1, 1]))):
            poly = [-17, 0, 1]
            for asked in range(3):
                lift, seen = seen_from(2, poly, stem)
                self.assertEqual((lift, seen), told)
                seen.append(5)
                seen[0] = 99
                self.assertEqual(poly, [-17, 0, 1])


if __name__ == "__main__":
    unittest.main()
