import unittest

from leftnumbers.errors import Unlike
from leftnumbers.near import begins_with, common_of, cut_at, figure_at, moved_by, parted_at
from things import begins, every_left, great_figures, parts_of

FAR = 10 ** 30
SMALL = every_left(2, range(-2, 3), 3) + every_left(3, range(-1, 2), 2)
PAIRS = [(one, other) for one in SMALL for other in SMALL if one[0] == other[0]]
# Below all least places and beyond all ends of the small ones.
PLACES = range(-4, 8)


def end(one):
    return one[1] + len(one[2])


def figure(one, place):
    """Place by place, as the document tells it."""
    if place >= end(one):
        return None
    return dict(enumerate(one[2], start=one[1])).get(place, 0)


def parting(one, other):
    for place in PLACES:
        figures = (figure(one, place), figure(other, place))
        if None not in figures and figures[0] != figures[1]:
            return place
    return None


def starts(one, other):
    """Whether one begins with other."""
    below = [place for place in PLACES if place < end(other)]
    return end(other) <= end(one) and all(figure(one, place) == figure(other, place) for place in below)


class FigureAt(unittest.TestCase):
    def test_told_ones(self):
        one = (7, -2, (4, 0, 3))
        told = [figure_at(one, place) for place in range(-5, 4)]
        self.assertEqual(told, [0, 0, 0, 4, 0, 3, None, None, None])

    def test_every_small_one(self):
        for one in SMALL:
            for place in PLACES:
                told = figure_at(one, place)
                self.assertEqual(told, figure(one, place))
                self.assertEqual(told is None, place >= end(one))

    def test_bare_ones(self):
        for least in (-3, 0, 5, FAR, -FAR):
            one = (7, least, ())
            self.assertEqual([figure_at(one, least + k) for k in (-FAR, -1, 0, 1, FAR)], [0, 0, None, None, None])

    def test_far_to_either_side(self):
        for least in (-FAR, 0, FAR):
            one = (5, least, (1, 0, 4))
            for far in (FAR, 2 * FAR, 10 ** 59):
                self.assertEqual(figure_at(one, least - far), 0)
                self.assertIsNone(figure_at(one, least + far))
            self.assertEqual([figure_at(one, least + k) for k in range(-1, 4)], [0, 1, 0, 4, None])

    def test_long_ones(self):
        one = (97, -FAR, great_figures(97, 1500, 1))
        self.assertEqual(tuple(figure_at(one, k - FAR) for k in range(1500)), one[2])
        self.assertIsNone(figure_at(one, 1500 - FAR))


class BeginsWith(unittest.TestCase):
    def test_told_ones(self):
        one = (7, -2, (4, 0, 3))
        self.assertIs(begins_with(one, one), True)
        self.assertIs(begins_with(one, (7, -2, (4, 0))), True)
        self.assertIs(begins_with(one, (7, -2, (4,))), True)
        self.assertIs(begins_with(one, (7, -2, ())), True)
        self.assertIs(begins_with(one, (7, -3, ())), True)
        self.assertIs(begins_with(one, (7, -1, ())), False)
        self.assertIs(begins_with(one, (7, -2, (4, 0, 3, 0))), False)
        self.assertIs(begins_with(one, (7, -2, (4, 1))), False)
        self.assertIs(begins_with((7, -2, (4, 0)), one), False)
        self.assertIs(begins_with((7, 5, ()), (7, 4, ())), True)
        self.assertIs(begins_with((7, 4, ()), (7, 5, ())), False)
        self.assertIs(begins_with((7, 5, (1,)), (7, 5, ())), True)
        self.assertIs(begins_with((7, 5, ()), (7, 4, (1,))), False)

    def test_every_small_pair(self):
        for one, other in PAIRS:
            self.assertIs(begins_with(one, other), starts(one, other))

    def test_each_fraction_of_the_one_begins_with_the_other(self):
        for one, other in PAIRS[::7]:
            both = [begins(part, other) for part in parts_of(one)]
            self.assertIs(begins_with(one, other), all(both))

    def test_far_apart(self):
        for low, high in ((-FAR, FAR), (-FAR, 0), (0, FAR)):
            for figures in ((), (1,), (1, 0, 4)):
                self.assertIs(begins_with((5, high, figures), (5, low, ())), True)
                self.assertIs(begins_with((5, high, figures), (5, low, (1,))), False)
                self.assertIs(begins_with((5, low, figures), (5, high, figures)), False)
                self.assertIs(begins_with((5, low, figures), (5, high, ())), False)

    def test_unlike_primes(self):
        for one, other in (((7, 0, ()), (5, 0, ())), ((2, 0, (1,)), (3, 0, (1,))), ((2, FAR, ()), (97, -FAR, (5,)))):
            for pair in ((one, other), (other, one)):
                with self.assertRaises(Unlike):
                    begins_with(*pair)


class PartedAt(unittest.TestCase):
    def test_told_ones(self):
        one = (7, -2, (4, 0, 3))
        self.assertIsNone(parted_at(one, one))
        self.assertIsNone(parted_at(one, (7, -2, (4, 0))))
        self.assertIsNone(parted_at(one, (7, -2, ())))
        self.assertIsNone(parted_at(one, (7, -5, ())))
        self.assertEqual(parted_at(one, (7, -2, (3, 0, 3))), -2)
        self.assertEqual(parted_at(one, (7, -2, (4, 0, 2, 5))), 0)
        self.assertEqual(parted_at(one, (7, -1, (4, 0))), -2)
        self.assertEqual(parted_at(one, (7, -1, ())), -2)
        self.assertEqual(parted_at(one, (7, -4, (4, 0))), -4)

    def test_every_small_pair(self):
        for one, other in PAIRS:
            self.assertEqual(parted_at(one, other), parting(one, other))

    def test_where_they_part_no_fraction_begins_with_both(self):
        for one, other in PAIRS[::7]:
            ways = ((one, other), (other, one))
            both = any(begins(part, second) for first, second in ways for part in parts_of(first))
            self.assertEqual(parted_at(one, other) is None, both)
            if not both:
                continue
            longer, shorter = (one, other) if end(one) >= end(other) else (other, one)
            self.assertIs(begins_with(longer, shorter), True)

    def test_far_apart(self):
        for low, high in ((-FAR, FAR), (-FAR, 0), (0, FAR)):
            for figures in ((), (1,), (1, 0, 4)):
                for one, other, place in (
                    ((5, low, ()), (5, high, figures), None),
                    ((5, low, (2,)), (5, high, figures), low),
                    ((5, low, (2, 0, 0)), (5, high, figures), low),
                ):
                    self.assertEqual(parted_at(one, other), place)
                    self.assertEqual(parted_at(other, one), place)

    def test_long_ones(self):
        figures = great_figures(97, 1500, 2)
        one = (97, -FAR, figures)
        for k in (1, 2, 749, 1498, 1499):
            other = (97, -FAR, figures[:k] + ((figures[k] + 1) % 97,) + figures[k + 1:])
            self.assertEqual(parted_at(one, other), k - FAR)
            self.assertEqual(parted_at(other, one), k - FAR)
            self.assertIsNone(parted_at(one, (97, -FAR, figures[:k])))

    def test_unlike_primes(self):
        for one, other in (((7, 0, ()), (5, 0, ())), ((2, 0, (1,)), (3, 0, (1,))), ((2, FAR, ()), (97, -FAR, (5,)))):
            for pair in ((one, other), (other, one)):
                with self.assertRaises(Unlike):
                    parted_at(*pair)


class ThreeTogether(unittest.TestCase):
    def test_the_first_and_the_last_part_at_the_lesser_place(self):
        ones = every_left(2, range(-1, 2), 3) + [(2, FAR, (1, 1)), (2, -FAR, (1, 0, 1)), (2, -FAR, (1, 1))]
        for lefts in (ones, every_left(3, (0, 1), 2), [(3, k, row) for k in (0, 5, FAR) for row in ((1, 2), (2,), ())]):
            seen = 0
            for first in lefts:
                for middle in lefts:
                    for last in lefts:
                        s = parted_at(first, middle)
                        t = parted_at(middle, last)
                        if s is not None and t is not None and s != t:
                            self.assertEqual(parted_at(first, last), min(s, t))
                            seen += 1
            self.assertGreater(seen, 0)


class CutAt(unittest.TestCase):
    def test_told_ones(self):
        one = (7, -2, (4, 0, 0, 3))
        self.assertEqual(cut_at(one, 3), one)
        self.assertEqual(cut_at(one, 2), one)
        self.assertEqual(cut_at(one, 1), (7, -2, (4, 0, 0)))
        self.assertEqual(cut_at(one, 0), (7, -2, (4, 0)))
        self.assertEqual(cut_at(one, -1), (7, -2, (4,)))
        self.assertEqual(cut_at(one, -2), (7, -2, ()))
        self.assertEqual(cut_at(one, -3), (7, -3, ()))

    def test_every_small_one(self):
        for one in SMALL:
            for place in PLACES:
                told = cut_at(one, place)
                self.assertEqual(end(told), min(place, end(one)))
                self.assertTrue(told[2] == () or told[2][0] != 0)
                self.assertEqual([figure(told, k) for k in PLACES if k < end(told)],
                                 [figure(one, k) for k in PLACES if k < end(told)])

    def test_far_to_either_side(self):
        for least in (-FAR, 0, FAR):
            for figures in ((), (1,), (1, 0, 4)):
                one = (5, least, figures)
                for far in (FAR, 2 * FAR, 10 ** 59):
                    self.assertEqual(cut_at(one, least - far), (5, least - far, ()))
                    self.assertEqual(cut_at(one, least + far), one)

    def test_long_ones(self):
        figures = great_figures(97, 1500, 3)
        for k in (1, 2, 750, 1499, 1500, 1501):
            self.assertEqual(cut_at((97, FAR, figures), FAR + k), (97, FAR, figures[:k]))


class CommonOf(unittest.TestCase):
    def test_told_ones(self):
        one = (7, -2, (4, 0, 3))
        self.assertEqual(common_of(one, one), one)
        self.assertEqual(common_of(one, (7, -2, (4, 0, 3, 5))), one)
        self.assertEqual(common_of(one, (7, -2, (4, 0, 2))), (7, -2, (4, 0)))
        self.assertEqual(common_of(one, (7, -2, (5, 0, 3))), (7, -2, ()))
        self.assertEqual(common_of(one, (7, 4, (1,))), (7, -2, ()))
        self.assertEqual(common_of(one, (7, -5, ())), (7, -5, ()))
        self.assertEqual(common_of((7, 4, ()), (7, 6, ())), (7, 4, ()))

    def test_every_small_pair_the_longest_of_all(self):
        for one, other in PAIRS:
            told = common_of(one, other)
            self.assertTrue(starts(one, told) and starts(other, told))
            # What begins with the told one and is longer by one figure is not begun by both.
            for figure_behind in range(one[0]):
                row = told[2] + (figure_behind,)
                longer = (one[0], told[1], row) if row[0] else (one[0], told[1] + 1, ())
                self.assertFalse(starts(one, longer) and starts(other, longer))
            self.assertEqual(common_of(other, one), told)

    def test_far_apart(self):
        for low, high in ((-FAR, FAR), (-FAR, 0), (0, FAR)):
            for figures in ((), (1,), (1, 0, 4)):
                for other in ((), (2,), (2, 0, 0)):
                    self.assertEqual(common_of((5, low, other), (5, high, figures)), (5, low, ()))
                    self.assertEqual(common_of((5, high, figures), (5, low, other)), (5, low, ()))

    def test_unlike_primes(self):
        for one, other in (((7, 0, ()), (5, 0, ())), ((2, 0, (1,)), (3, 0, (1,))), ((2, FAR, ()), (97, -FAR, (5,)))):
            for pair in ((one, other), (other, one)):
                with self.assertRaises(Unlike):
                    common_of(*pair)


class MovedBy(unittest.TestCase):
    def test_to_either_side_and_back(self):
        for one in SMALL + [(97, 0, great_figures(97, 1500, 4)), (5, 3, ())]:
            for far in (0, 1, 2, 17, FAR - 5, 10 ** 59):
                self.assertEqual(moved_by(one, far), (one[0], one[1] + far, one[2]))
                self.assertEqual(moved_by(one, -far), (one[0], one[1] - far, one[2]))
                self.assertEqual(moved_by(moved_by(one, far), -far), one)
                self.assertEqual(moved_by(moved_by(one, -far), far), one)

    def test_each_figure_so_many_places_farther_to_the_left(self):
        for one in SMALL:
            for far in (-3, 0, 2):
                told = moved_by(one, far)
                for place in PLACES:
                    self.assertEqual(figure(told, place + far), figure(one, place))


class AskedAgain(unittest.TestCase):
    def test_the_same_is_answered_alike(self):
        one = (7, -2, (4, 0, 3))
        other = (7, -2, (4, 0, 2, 1))
        for asked in range(3):
            self.assertEqual(figure_at(one, 0), 3)
            self.assertIs(begins_with(one, other), False)
            self.assertEqual(parted_at(one, other), 0)
            self.assertEqual(cut_at(one, 0), (7, -2, (4, 0)))
            self.assertEqual(common_of(one, other), (7, -2, (4, 0)))
            self.assertEqual(moved_by(one, 2), (7, 0, (4, 0, 3)))


if __name__ == "__main__":
    unittest.main()
