import unittest

from glasslayers import errors
from glasslayers.errors import GlassError

REFUSALS = [
    "NoWay", "Missing", "NotFolder", "NoPlace", "Astray", "IsFolder", "IsThere",
    "NotEmpty", "InItself", "TooDeep", "Crowded", "NoPane", "NoRow",
]


class ErrorsTest(unittest.TestCase):
    def test_glass_error_stands_under_value_error(self):
        self.assertEqual(GlassError.__bases__, (ValueError,))

    def test_each_refusal_stands_straight_under_glass_error(self):
        for name in REFUSALS:
            with self.subTest(name=name):
                self.assertEqual(getattr(errors, name).__bases__, (GlassError,))
                self.assertEqual(getattr(errors, name).__name__, name)

    def test_no_refusal_stands_under_another_one(self):
        for name in REFUSALS:
            for other in REFUSALS:
                with self.subTest(name=name, other=other):
                    under = issubclass(getattr(errors, name), getattr(errors, other))
                    self.assertIs(under, name == other)

    def test_each_is_raised_with_and_without_words(self):
        for name in REFUSALS + ["GlassError"]:
            refusal = getattr(errors, name)
            for raised in (refusal(), refusal("some words")):
                with self.subTest(name=name), self.assertRaises(GlassError) as caught:
                    raise raised
                self.assertIs(caught.exception, raised)


if __name__ == "__main__":
    unittest.main()
