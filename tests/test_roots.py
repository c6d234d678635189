import unittest
from fractions import Fraction
from itertools import product
from math import comb

from leftnumbers.errors import LeftError, NoDepth, NoPlace, NoPolynomial, NoPrime, NoRoot
from leftnumbers.lefts import is_left
from leftnumbers.near import figure_at
from leftnumbers.polys import product_of
from leftnumbers.roots import root_of, tree_of
from leftnumbers.seen import seen_left
from things import Odd, as_tuple, figures_of, great, no_polys, no_whole_numbers, numbers_behind, times_in, worth

PRIMES = (2, 3, 5, 97)
NO_PRIMES = [0, 1, 4, -2, -7, 9, 91, 99, 101, 10 ** 60]
NO_DEPTHS = [0, 13, -1, 14, 10 ** 60, -10 ** 60]


def of_roots(*parts):
    """The polynomial of the factors (bottom x - top), one for each fraction."""
    poly = [1]
    for part in map(Fraction, parts):
        factor = [-part.numerator, part.denominator]
        poly = product_of(poly, factor) if len(poly) > 1 else factor
    return poly


def polys(p):
    """With roots far apart, near, the same twice, none, nought; great ones; ones that p divides some times."""
    rows = [
        [0, 1], [-5, 1], [1, -p], [p, p * p], of_roots(1, 2, 3), of_roots(0, 1, -1, p), of_roots(0, p, p * p),
        of_roots(1, 1 + p ** 5), of_roots(1, 1 + p ** 11), of_roots(1, 1 + p ** 12), of_roots(-3, -3 + p ** 14, 4),
        of_roots(1, 1), of_roots(0, 0, 0), of_roots(Fraction(1, p + 1), Fraction(1, p + 1), 2), of_roots(*[3] * 8),
        of_roots(0, 0, 1, 1, 2, 2, 3, 3), of_roots(*range(8)), of_roots(Fraction(1, p), Fraction(-2, p + 1), 7),
        [1, 0, 1], [1, 1, 1], [-p, 0, 1], [-p ** 3, 0, 1], [p, 0, 0, 0, 0, 0, 0, 0, 1], [-2, 0, 1], [-17, 0, 1],
        [-1, 0, 0, 0, 0, 0, 0, 0, 1], [3, 0, 0, 1], product_of([1, 0, 1], [1, 0, 1]), [p ** 9, 0, p ** 4, 1],
        [great(60, k) for k in range(9)], [-great(60, 1), great(60, 2)], [great(60, 5), 0, -great(60, 6)],
    ]
    return rows + [[number * p ** times for number in row] for row in rows[::3] for times in (1, 5)]


def put_behind(poly, first, power):
    """The numbers of the polynomial in z that comes where first + power z is put for x."""
    return [sum(number * comb(n, k) * first ** (n - k) for n, number in enumerate(poly) if n >= k) * power ** k
            for k in range(len(poly))]


def lift_of(p, poly, stem):
    first = sum(figure * p ** place for place, figure in enumerate(stem))
    numbers = put_behind(poly, first, p ** len(stem))
    return min(times_in(p, number) for number in numbers if number), numbers


def by_the_rule(p, poly, depth):
    """The tree straight from the document's words, stem by stem and not in order."""
    told = {}
    stems = [()]
    while stems:
        stem = stems.pop()
        lift, numbers = lift_of(p, poly, stem)
        seen = [number // p ** lift for number in numbers]
        slope = [k * number for k, number in enumerate(seen)][1:]
        for figure in range(p):
            longer = stem + (figure,)
            if worth(seen, figure) % p:
                told[longer] = ("none", lift)
            elif worth(slope, figure) % p:
                told[longer] = ("one", lift - len(stem))
            elif len(longer) == depth:
                told[longer] = ("open", lift_of(p, poly, longer)[0])
            else:
                stems.append(longer)
    return [(stem,) + told[stem] for stem in sorted(told)]


def begins_so(p, number, stem):
    return figures_of(p, number, len(stem)) == stem


def ones_of(p, poly, depth=12):
    return [(stem, number) for stem, word, number in tree_of(p, poly, depth) if word == "one"]


def number_at(p, root):
    """The whole number from 0 on whose figures are those of a root."""
    return sum(figure * p ** (root[1] + k) for k, figure in enumerate(root[2]))


def places(root, end):
    return tuple(figure_at(root, place) for place in range(end))


class Tree(unittest.TestCase):
    def test_told_ones(self):
        self.assertEqual(tree_of(3, [0, 1], 1), [((0,), "one", 0), ((1,), "none", 0), ((2,), "none", 0)])
        self.assertEqual(tree_of(3, [0, 1], 12), tree_of(3, [0, 1], 1))
        self.assertEqual(tree_of(2, [0, 0, 1], 1), [((0,), "open", 2), ((1,), "none", 0)])
        self.assertEqual(tree_of(2, [0, 0, 1], 2), [((0, 0), "open", 4), ((0, 1), "none", 2), ((1,), "none", 0)])
        self.assertEqual(tree_of(2, [-17, 0, 1], 5), [((0,), "none", 0), ((1, 0), "one", 1), ((1, 1), "one", 1)])
        self.assertEqual(tree_of(2, [-17, 0, 1], 1), [((0,), "none", 0), ((1,), "open", 2)])
        self.assertEqual(tree_of(3, [-3, 0, 1], 2),
                         [((0, 0), "none", 1), ((0, 1), "none", 1), ((0, 2), "none", 1), ((1,), "none", 0),
                          ((2,), "none", 0)])
        self.assertEqual(tree_of(2, [0, 8], 3), [((0,), "one", 3), ((1,), "none", 3)])
        self.assertEqual(tree_of(3, [1, 0, 1], 7), [((0,), "none", 0), ((1,), "none", 0), ((2,), "none", 0)])
        self.assertEqual(tree_of(7, [0, -1, 0, 0, 0, 0, 0, 1], 4), [((figure,), "one", 0) for figure in range(7)])

    def test_by_the_rule(self):
        for p in PRIMES + (7, 53):
            for poly in polys(p):
                for depth in (1, 2, 5, 12):
                    self.assertEqual(tree_of(p, poly, depth), by_the_rule(p, poly, depth))

    def test_kinds(self):
        for told in (tree_of(2, [0, 0, 1], 5), tree_of(3, [0, 1], 1)):
            self.assertIs(type(told), list)
            for row in told:
                self.assertEqual([type(thing) for thing in row], [tuple, str, int])
                self.assertEqual({type(figure) for figure in row[0]}, {int})

    def test_sorted_and_each_whole_number_begins_with_just_one(self):
        for p in PRIMES:
            for poly in polys(p):
                for depth in (1, 5, 12):
                    stems = [row[0] for row in tree_of(p, poly, depth)]
                    self.assertEqual(stems, sorted(set(stems)))
                    self.assertTrue(all(1 <= len(stem) <= depth for stem in stems))
                    for stem, later in zip(stems, stems[1:]):
                        self.assertNotEqual(later[:len(stem)], stem)
                    # As no stem begins with another one, this sum is 1 just where none is left out.
                    self.assertEqual(sum(Fraction(1, p ** len(stem)) for stem in stems), 1)

    def test_whole_numbers_on_either_side_of_0(self):
        numbers = list(range(-70, 70)) + [great(60, 1), -great(60, 2), 2 ** 40, -3 ** 30]
        for p in (2, 3, 97):
            for poly in polys(p)[::4]:
                stems = [row[0] for row in tree_of(p, poly, 5)]
                for number in numbers:
                    self.assertEqual(len([stem for stem in stems if begins_so(p, number, stem)]), 1)

    def test_all_three_words_come(self):
        for p in PRIMES:
            for word in ("none", "one", "open"):
                found = [row for poly in polys(p) for row in tree_of(p, poly, 12) if row[1] == word]
                self.assertTrue(found)
                self.assertGreater(max(len(row[0]) for row in found), 5)

    def test_near_roots_part_where_they_part(self):
        for p in PRIMES:
            for far in range(1, 12):
                told = ones_of(p, of_roots(1, 1 + p ** far))
                self.assertEqual([len(stem) for stem, number in told], [far + 1] * 2)
                # Near one root, the distance from the other is p far times.
                self.assertEqual([number for stem, number in told], [far] * 2)
            for far in (12, 13, 40):
                told = [row for row in tree_of(p, of_roots(1, 1 + p ** far), 12) if row[1] != "none"]
                self.assertEqual(told, [((1,) + (0,) * 11, "open", 24)])

    def test_a_root_twice_stays_open(self):
        for p in PRIMES:
            for depth in (1, 5, 12):
                told = [row for row in tree_of(p, of_roots(-1, -1), depth) if row[1] != "none"]
                self.assertEqual(told, [((p - 1,) * depth, "open", 2 * depth)])

    def test_told_lists_belong_to_the_asker(self):
        poly = [-17, 0, 1]
        first = tree_of(2, poly, 5)
        kept = list(first)
        first.append("more")
        first[0] = None
        self.assertEqual(tree_of(2, poly, 5), kept)
        self.assertEqual(poly, [-17, 0, 1])


class WhatTheWordsSay(unittest.TestCase):
    def rows(self, p):
        for poly in polys(p):
            for depth in (1, 3, 12):
                told = tree_of(p, poly, depth)
                for row in told[::1 + len(told) // 60] + [row for row in told if row[1] != "none"][:20]:
                    yield (poly,) + row

    def test_none(self):
        for p in PRIMES:
            for poly, stem, word, number in self.rows(p):
                if word == "none":
                    for x in numbers_behind(p, stem):
                        self.assertNotEqual(worth(poly, x), 0)
                        self.assertEqual(times_in(p, worth(poly, x)), number)

    def test_one(self):
        for p in PRIMES:
            for poly, stem, word, number in self.rows(p):
                if word == "one":
                    numbers = numbers_behind(p, stem)
                    for x, y in zip(numbers + numbers, numbers[1:] + numbers[4:]):
                        if x != y:
                            self.check_difference(p, poly, x, y, number)

    def check_difference(self, p, poly, x, y, number):
        difference = worth(poly, x) - worth(poly, y)
        self.assertNotEqual(difference, 0)
        self.assertEqual(times_in(p, difference), times_in(p, x - y) + number)

    def test_open(self):
        for p in PRIMES:
            for poly, stem, word, number in self.rows(p):
                if word == "open":
                    for x in numbers_behind(p, stem):
                        self.assertTrue(worth(poly, x) % p ** number == 0)

    def test_just_one_stem_goes_on(self):
        for p in (2, 3, 5):
            for poly in polys(p):
                for stem, number in ones_of(p, poly):
                    for more in range(3):
                        many = len(stem) + more
                        longer = [stem + row for row in product(range(p), repeat=more)]
                        good = [row for row in longer if self.all_worths(p, poly, row, number + many)]
                        self.assertEqual(good, [places(root_of(p, poly, stem, many), many)])

    def all_worths(self, p, poly, stem, times):
        return all(worth(poly, x) % p ** times == 0 for x in numbers_behind(p, stem))


class Roots(unittest.TestCase):
    def test_told_ones(self):
        self.assertEqual(root_of(7, [-2, 0, 1], (3,), 5), (7, 0, (3, 1, 2, 6, 1)))
        self.assertEqual(root_of(7, [-2, 0, 1], (4,), 5), (7, 0, (4, 5, 4, 0, 5)))
        self.assertEqual(root_of(7, [-2, 0, 1], (3,), 1), (7, 0, (3,)))
        self.assertEqual(root_of(2, [-17, 0, 1], (1, 0), 6), (2, 0, (1, 0, 0, 1, 0, 1)))
        self.assertEqual(root_of(3, [-9, 1], (0,), 5), (3, 2, (1, 0, 0)))
        self.assertEqual(root_of(3, [-9, 1], (0,), 2), (3, 2, ()))
        self.assertEqual(root_of(3, [0, 1], (0,), 400), (3, 400, ()))
        self.assertEqual(root_of(5, [1, 1], (4,), 4), (5, 0, (4, 4, 4, 4)))

    def test_worths_at_roots(self):
        for p in PRIMES:
            for poly in polys(p):
                for stem, number in ones_of(p, poly)[:5]:
                    for place in {len(stem), len(stem) + 1, len(stem) + 2, 17, 400}:
                        self.check_root(p, poly, stem, number, place)

    def check_root(self, p, poly, stem, number, place):
        root = root_of(p, poly, stem, place)
        self.assertIs(is_left(root), True)
        self.assertEqual((root[0], root[1] + len(root[2])), (p, place))
        self.assertGreaterEqual(root[1], 0)
        self.assertEqual(places(root, len(stem)), stem)
        x = number_at(p, root)
        power = p ** (number + place)
        for far in (0, 1, -5):
            self.assertEqual(worth(poly, x + far * p ** place) % power, 0)
        # Another last figure of the stem itself would be that of another stem, which may have a root of its own.
        for other in range(p if place > len(stem) else 0):
            if other != figure_at(root, place - 1):
                less = x % p ** (place - 1)
                self.assertNotEqual(worth(poly, less + other * p ** (place - 1)) % power, 0)

    def test_every_end_begins_with_the_one_ahead(self):
        near = (3, of_roots(1, 1 + 3 ** 5), (1, 0, 0, 0, 0, 1))
        for p, poly, stem in ((7, [-2, 0, 1], (3,)), (2, [-17, 0, 1], (1, 1)), near):
            whole = places(root_of(p, poly, stem, 400), 400)
            for place in range(len(stem), 400):
                self.assertEqual(places(root_of(p, poly, stem, place), place), whole[:place])

    def test_the_next_figure_is_the_only_one(self):
        for p in (2, 3, 7):
            great_one = [great(60, 1), great(59, 2) * p + 1]
            for poly in ([-2, 0, 1], [-17, 0, 1], of_roots(1, 1 + p ** 3), [p, 1, p], great_one):
                for stem, number in ones_of(p, poly):
                    for place in (len(stem), 30, 399):
                        self.check_next_figure(p, poly, stem, number, place)

    def check_next_figure(self, p, poly, stem, number, place):
        x = number_at(p, root_of(p, poly, stem, place))
        power = p ** (number + place + 1)
        good = [figure for figure in range(p) if worth(poly, x + figure * p ** place) % power == 0]
        self.assertEqual(good, [figure_at(root_of(p, poly, stem, place + 1), place)])

    def test_fractions(self):
        for p in PRIMES + (7,):
            parts = [Fraction(0), Fraction(1), Fraction(-3, p + 1), Fraction(7, p * p + 1), Fraction(p ** 3, p + 2),
                     Fraction(-great(30, 1) * p + 1, great(30, 2) * p + 1), Fraction(p ** 15), Fraction(1 + 2 * p ** 4)]
            for poly_parts in [[part] for part in parts] + [parts[:4], parts[1:4] + parts[5:6], [parts[0], parts[4]]]:
                self.check_fractions(p, poly_parts)

    def check_fractions(self, p, parts):
        poly = of_roots(*parts)
        told = ones_of(p, poly)
        self.assertEqual(len(told), len(parts))
        for place in (12, 50, 400):
            roots = sorted(root_of(p, poly, stem, place) for stem, number in told)
            self.assertEqual(roots, sorted(seen_left(p, as_tuple(part), place) for part in parts))

    def test_fractions_that_the_prime_divides_below_are_no_roots_in_the_tree(self):
        for p in PRIMES:
            poly = of_roots(Fraction(1, p), Fraction(-5, p * p), 1)
            self.assertEqual([len(stem) for stem, number in ones_of(p, poly)], [1])

    def test_roots_that_are_0(self):
        for p in PRIMES:
            for poly in ([0, 1], [0, p], [0, 1, 1], [0, -1, 0, 0, 5], [0, p + 1, p, 1], of_roots(0, p ** 3)):
                (stem,) = [stem for stem, number in ones_of(p, poly) if not any(stem)]
                for place in (len(stem), len(stem) + 1, 40, 400):
                    self.assertEqual(root_of(p, poly, stem, place), (p, place, ()))

    def test_0_and_a_near_one(self):
        for p in PRIMES:
            poly = of_roots(0, p ** 3)
            self.assertEqual(root_of(p, poly, (0, 0, 0, 0), 400), (p, 400, ()))
            self.assertEqual(root_of(p, poly, (0, 0, 0, 1), 10), (p, 3, (1, 0, 0, 0, 0, 0, 0)))

    def test_stems_of_twelve_figures(self):
        for p in PRIMES:
            poly = of_roots(1, 1 + p ** 11)
            stems = [stem for stem, number in ones_of(p, poly)]
            self.assertEqual(stems, [(1,) + (0,) * 11, (1,) + (0,) * 10 + (1,)])
            for stem, part in zip(stems, (1, 1 + p ** 11)):
                for place in (12, 13, 400):
                    self.assertEqual(root_of(p, poly, stem, place), seen_left(p, (part, 1), place))

    def test_the_same_is_answered_alike(self):
        poly = [-2, 0, 1]
        for asked in range(3):
            self.assertEqual(root_of(7, poly, (3,), 5), (7, 0, (3, 1, 2, 6, 1)))
        self.assertEqual(poly, [-2, 0, 1])


class TreeRefusals(unittest.TestCase):
    def test_no_prime(self):
        for thing in NO_PRIMES + no_whole_numbers():
            with self.assertRaises(NoPrime):
                tree_of(thing, [-2, 0, 1], 3)

    def test_no_polynomial(self):
        for thing in no_polys():
            with self.assertRaises(NoPolynomial):
                tree_of(7, thing, 3)

    def test_no_depth(self):
        for thing in NO_DEPTHS + no_whole_numbers():
            with self.assertRaises(NoDepth):
                tree_of(7, [-2, 0, 1], thing)
            with self.assertRaises(LeftError):
                tree_of(7, [-2, 0, 1], thing)

    def test_several_due(self):
        for p in (4, True, None, Odd()):
            for poly in ([1], [1, 0], None, Odd(), [True, 1]):
                for depth in (0, 13, True, None, "3", Odd()):
                    for asked in ((p, poly, depth), (p, [-2, 0, 1], depth), (p, poly, 3)):
                        with self.assertRaises(NoPrime):
                            tree_of(*asked)
                    with self.assertRaises(NoPolynomial):
                        tree_of(7, poly, depth)


class RootRefusals(unittest.TestCase):
    def test_no_prime(self):
        for thing in NO_PRIMES + no_whole_numbers():
            with self.assertRaises(NoPrime):
                root_of(thing, [-2, 0, 1], (3,), 5)

    def test_no_polynomial(self):
        for thing in no_polys():
            with self.assertRaises(NoPolynomial):
                root_of(7, thing, (3,), 5)

    def test_no_root_of_things_that_are_no_stems(self):
        things = [3, "3", [3], (7,), (-1,), (10,), ("3",), (3.0,), ((3,),), (None,), [3, 1], {3: 3}, ()]
        for thing in no_whole_numbers() + things + [(Odd(),), (3, Odd()), (3, None)]:
            with self.assertRaises(NoRoot):
                root_of(7, [-2, 0, 1], thing, 5)
        for truth in (True, False):
            with self.assertRaises(NoRoot):
                root_of(7, of_roots(0, 1), (truth,), 5)

    def test_no_root_of_other_stems(self):
        for p in PRIMES:
            for poly in polys(p):
                told = tree_of(p, poly, 12)
                for stem, word, number in told[::1 + len(told) // 40] + [row for row in told if row[1] == "open"]:
                    if word != "one":
                        self.check_no_root(p, poly, stem)
                for stem, number in ones_of(p, poly)[:3]:
                    for figure in range(min(p, 3)):
                        self.check_no_root(p, poly, stem + (figure,))
                    self.check_no_root(p, poly, places(root_of(p, poly, stem, len(stem) + 1), len(stem) + 1))
                    self.check_no_root(p, poly, stem[:-1])
                    self.check_no_root(p, poly, list(stem))

    def check_no_root(self, p, poly, stem):
        for place in (12, 400):
            with self.assertRaises(NoRoot):
                root_of(p, poly, stem, place)

    def test_no_root_of_thirteen_figures(self):
        for p in PRIMES:
            poly = of_roots(1, 1 + p ** 12)
            for last in (0, 1):
                with self.assertRaises(NoRoot):
                    root_of(p, poly, (1,) + (0,) * 11 + (last,), 400)
                with self.assertRaises(NoRoot):
                    root_of(p, poly, (1,) + (0,) * 50 + (last,), 400)

    def test_no_place(self):
        poly = of_roots(1, 1 + 3 ** 2)
        for stem in ((1, 0, 0), (1, 0, 1)):
            self.assertEqual(root_of(3, poly, stem, 3)[0], 3)
            self.assertEqual(root_of(3, poly, stem, 400)[0], 3)
            for thing in [2, 1, 0, -1, 401, 402, 10 ** 60, -10 ** 60] + no_whole_numbers():
                with self.assertRaises(NoPlace):
                    root_of(3, poly, stem, thing)
                with self.assertRaises(LeftError):
                    root_of(3, poly, stem, thing)

    def test_several_due(self):
        for p in (4, True, None, Odd()):
            for poly in ([1], [1, 0], None, Odd(), [True, 1]):
                for stem in ((), (0,), (3, 1), [3], None, Odd()):
                    for place in (0, 401, True, None, "5", Odd()):
                        self.check_order(p, poly, stem, place)

    def check_order(self, p, poly, stem, place):
        right = (7, [-2, 0, 1], (3,), 5)
        wrong = (p, poly, stem, place)
        refusals = (NoPrime, NoPolynomial, NoRoot, NoPlace)
        for choice in product((False, True), repeat=4):
            if any(choice):
                with self.assertRaises(refusals[choice.index(True)]):
                    root_of(*[bad if chosen else good for bad, good, chosen in zip(wrong, right, choice)])


if __name__ == "__main__":
    unittest.main()
