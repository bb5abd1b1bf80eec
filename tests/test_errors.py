import unittest

from runpaint import errors


class Errors(unittest.TestCase):

    def test_paint_error_stands_under_value_error(self):
        self.assertEqual(errors.PaintError.__bases__, (ValueError,))

    def test_each_refusal_stands_straight_under_paint_error(self):
        for name in ("NoLaying", "NoNumber", "TooMany", "BadRun", "Wide", "NoNote"):
            with self.subTest(name=name):
                refusal = getattr(errors, name)
                self.assertEqual(refusal.__bases__, (errors.PaintError,))
                self.assertEqual(refusal.__name__, name)


if __name__ == "__main__":
    unittest.main()
