"""Point 3: the classes of the refusals."""

import unittest

from manygoings import errors

NAMES = ("NoWorth", "NoThing", "NoPlace", "NoName", "NoSize",
         "NoPicture", "NoProgram", "NoSteps", "NoText", "NoRow")


class Errors(unittest.TestCase):
    def test_pile_error_stands_under_value_error(self):
        self.assertEqual(errors.PileError.__bases__, (ValueError,))

    def test_each_refusal_stands_straight_under_pile_error(self):
        for name in NAMES:
            with self.subTest(name=name):
                self.assertEqual(getattr(errors, name).__bases__, (errors.PileError,))

    def test_none_stands_under_another(self):
        for one in NAMES:
            for other in NAMES:
                if one != other:
                    with self.subTest(one=one, other=other):
                        self.assertFalse(issubclass(getattr(errors, one), getattr(errors, other)))

    def test_a_refusal_is_caught_as_any_refusal(self):
        for name in NAMES:
            with self.assertRaises(errors.PileError):
                raise getattr(errors, name)("why")


if __name__ == "__main__":
    unittest.main()
