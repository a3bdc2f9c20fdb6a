import unittest

from readgrove import errors

REFUSALS = ["NoGrammar", "NoReading", "Endless", "TooMany", "NoText", "NoOrder"]


class Refusals(unittest.TestCase):
    """[3]"""

    def test_any_refusal_is_a_value_error(self):
        self.assertEqual(errors.GroveError.__bases__, (ValueError,))

    def test_each_stands_straight_under_any_refusal(self):
        for name in REFUSALS:
            with self.subTest(name):
                self.assertEqual(getattr(errors, name).__bases__, (errors.GroveError,))

    def test_each_is_taken_as_any_refusal_and_as_a_value_error(self):
        for name in REFUSALS:
            for wider in (errors.GroveError, ValueError):
                with self.subTest(name, wider=wider), self.assertRaises(wider):
                    raise getattr(errors, name)("refused")

    def test_none_is_another_one(self):
        for one in REFUSALS:
            for other in REFUSALS:
                with self.subTest(one=one, other=other):
                    made = getattr(errors, one)("refused")
                    self.assertEqual(isinstance(made, getattr(errors, other)), one == other)

    def test_any_refusal_is_none_of_them(self):
        for name in REFUSALS:
            self.assertNotIsInstance(errors.GroveError("refused"), getattr(errors, name))


if __name__ == "__main__":
    unittest.main()
