import unittest

from stepfield import errors
from stepfield.errors import FieldError

REFUSALS = ("BadWidth", "TooMany", "BadStep", "Unlike", "NoField")


class ErrorsTest(unittest.TestCase):
    def test_any_refusal_is_straight_under_value_error(self):
        self.assertEqual(FieldError.__bases__, (ValueError,))

    def test_each_refusal_is_straight_under_field_error(self):
        for name in REFUSALS:
            with self.subTest(name=name):
                refusal = getattr(errors, name)
                self.assertEqual(refusal.__name__, name)
                self.assertEqual(refusal.__bases__, (FieldError,))

    def test_refusals_are_classes_of_their_own(self):
        self.assertEqual(len({getattr(errors, name) for name in REFUSALS}), len(REFUSALS))


if __name__ == "__main__":
    unittest.main()
