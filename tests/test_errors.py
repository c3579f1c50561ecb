import unittest

from hangstill import errors

NAMES = ("NoMobile", "NoHall", "NoWeights", "NoWay", "NoNumber", "Never", "TooLong", "TooDeep", "NoText", "Nothing")


class Refusals(unittest.TestCase):
    def test_the_base_is_a_value_error(self):
        self.assertEqual(errors.HangError.__bases__, (ValueError,))

    def test_each_is_a_hang_error_and_a_value_error(self):
        for name in NAMES:
            with self.subTest(name):
                refusal = getattr(errors, name)
                self.assertTrue(issubclass(refusal, errors.HangError))
                self.assertTrue(issubclass(refusal, ValueError))
                with self.assertRaises(errors.HangError):
                    raise refusal("words")

    def test_none_is_another(self):
        for name in NAMES:
            for other in NAMES:
                if name != other:
                    with self.subTest(name=name, other=other):
                        self.assertFalse(issubclass(getattr(errors, name), getattr(errors, other)))
            self.assertIsNot(getattr(errors, name), errors.HangError)


if __name__ == "__main__":
    unittest.main()
