import unittest

from leftnumbers import errors

NAMES = [
    "NoPrime", "NoFraction", "NoPlace", "NoFigures", "NoText", "Unlike", "NoQuotient", "NoPower", "TooFew",
    "NoSize", "NoPolynomial", "NoDepth", "NoRoot", "NotNear",
]


class Refusals(unittest.TestCase):
    def test_there_are_fourteen_beside_left_error(self):
        classes = [name for name, thing in vars(errors).items() if isinstance(thing, type)]
        self.assertEqual(sorted(classes), sorted(NAMES + ["LeftError"]))
        self.assertEqual(len(NAMES), 14)

    def test_left_error_stands_under_value_error(self):
        self.assertEqual(errors.LeftError.__bases__, (ValueError,))

    def test_each_stands_under_left_error_alone(self):
        for name in NAMES:
            with self.subTest(name=name):
                self.assertEqual(getattr(errors, name).__bases__, (errors.LeftError,))

    def test_none_is_one_of_the_others(self):
        for name in NAMES:
            for other in NAMES:
                with self.subTest(name=name, other=other):
                    below = issubclass(getattr(errors, name), getattr(errors, other))
                    self.assertEqual(below, name == other)

    def test_each_is_raised_and_taken(self):
        for name in NAMES + ["LeftError"]:
            for above in (getattr(errors, name), errors.LeftError, ValueError):
                with self.subTest(name=name, above=above):
                    with self.assertRaises(above):
                        raise getattr(errors, name)("words")


if __name__ == "__main__":
    unittest.main()
