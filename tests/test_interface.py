"""Names and arguments stand as the document's interface tells them."""

import inspect
import unittest

from leftnumbers import (
    found, fractions, lefts, near, polys, powers, primes, products, quotients, roots, seen, stems, sums, texts,
)

SIGNATURES = {
    primes: {
        "is_whole": "(thing)",
        "is_prime": "(thing)",
        "exponent": "(p, number)",
        "power_of": "(p, times)",
    },
    fractions: {
        "fraction": "(top, bottom=1)",
        "is_fraction": "(thing)",
        "plus_fraction": "(one, other)",
        "minus_fraction": "(one, other)",
        "times_fraction": "(one, other)",
        "over_fraction": "(one, other)",
        "exponent_of": "(p, one)",
        "alike": "(p, one, other, e)",
    },
    lefts: {
        "left_number": "(p, least, figures)",
        "is_left": "(thing)",
        "end_of": "(one)",
        "known_of": "(one)",
        "unit_of": "(one)",
        "of_whole": "(p, least, number, many)",
        "amount_of": "(one)",
        "begins_fraction": "(one, part)",
    },
    texts: {
        "show_left": "(one)",
        "read_left": "(text)",
    },
    near: {
        "figure_at": "(one, place)",
        "begins_with": "(one, other)",
        "parted_at": "(one, other)",
        "cut_at": "(one, place)",
        "common_of": "(one, other)",
        "moved_by": "(one, far)",
    },
    sums: {
        "plus": "(one, other)",
        "minus": "(one, other)",
        "opposite": "(one)",
        "sum_doubt": "(one, other)",
    },
    products: {
        "multiplied": "(one, other)",
        "scaled": "(one, part)",
        "product_doubt": "(one, other)",
    },
    quotients: {
        "divided": "(one, other)",
        "quotient_doubt": "(one, other)",
    },
    powers: {
        "raised": "(one, n)",
        "power_doubt": "(one, n)",
    },
    seen: {
        "seen_left": "(p, part, place)",
        "size_of": "(p, part)",
    },
    found: {
        "found_again": "(one, size)",
    },
    polys: {
        "is_poly": "(thing)",
        "worth_at": "(poly, part)",
        "slope_of": "(poly)",
        "product_of": "(poly, other)",
    },
    stems: {
        "seen_from": "(p, poly, stem)",
    },
    roots: {
        "tree_of": "(p, poly, depth)",
        "root_of": "(p, poly, stem, place)",
    },
}


class Interface(unittest.TestCase):
    def test_arguments(self):
        for module, rows in SIGNATURES.items():
            for name, arguments in rows.items():
                with self.subTest(module=module.__name__, name=name):
                    self.assertEqual(str(inspect.signature(getattr(module, name))), arguments)


if __name__ == "__main__":
    unittest.main()
