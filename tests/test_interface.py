"""Names and arguments stand as the document's interface tells them."""

import inspect
import unittest

from leftnumbers import fractions, primes

SIGNATURES = {
    primes: {
        "is_whole": "(thing)",
        "is_prime": "(thing)",
        "exponent": "(p, number)",
        "power_of": "(p, times)",
    },
    fractions: {
        "fraction": "(top, bottom=1)",
        "is_fraction": "(thing)",
        "plus_fraction": "(one, other)",
        "minus_fraction": "(one, other)",
        "times_fraction": "(one, other)",
        "over_fraction": "(one, other)",
        "exponent_of": "(p, one)",
        "alike": "(p, one, other, e)",
    },
}


class Interface(unittest.TestCase):
    def test_arguments(self):
        for module, rows in SIGNATURES.items():
            for name, arguments in rows.items():
                with self.subTest(module=module.__name__, name=name):
                    self.assertEqual(str(inspect.signature(getattr(module, name))), arguments)


if __name__ == "__main__":
    unittest.main()
