import unittest

from signsmooth import errors

NAMES = (
    "NoFraction", "NoTable", "NoChoice", "NoSquare", "NoFit", "NoUndoing", "NoLadder", "TooMany", "NoPaper", "NoRow",
    "NoStairs", "NoNumber", "NoCorner", "NoName", "NoStep", "NoWeight", "NoDeed", "NoText", "NoWord",
)


class TestErrors(unittest.TestCase):
    def test_the_base_stands_under_value_error(self):
        self.assertEqual(errors.SmoothError.__bases__, (ValueError,))
        self.assertEqual(errors.SmoothError.__name__, "SmoothError")

    def test_each_refusal_stands_straight_under_the_base(self):
        for name in NAMES:
            with self.subTest(name):
                refusal = getattr(errors, name)
                self.assertEqual(refusal.__name__, name)
                self.assertEqual(refusal.__bases__, (errors.SmoothError,))

    def test_none_stands_under_another_one(self):
        refusals = [getattr(errors, name) for name in NAMES]
        for one in refusals:
            for other in refusals:
                self.assertEqual(issubclass(one, other), one.__name__ == other.__name__)

    def test_each_can_be_raised_and_taken_as_a_value_error(self):
        for name in ("SmoothError",) + NAMES:
            with self.subTest(name), self.assertRaises(ValueError):
                raise getattr(errors, name)("words")


if __name__ == "__main__":
    unittest.main()
