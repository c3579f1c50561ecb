import random
import unittest
from fractions import Fraction
from math import gcd

from hangstill.ratios import greatest_divisor, least_whole, product, quotient, reduced


class Ratios(unittest.TestCase):
    def test_against_fractions(self):
        chance = random.Random(51)
        for number in range(200):
            one, other, third, fourth = [chance.randint(1, 40) for part in range(4)]
            self.assertEqual(greatest_divisor(one, other), gcd(one, other))
            self.assertEqual(reduced(one, other), Fraction(one, other).as_integer_ratio())
            both = (Fraction(one, other), Fraction(third, fourth))
            self.assertEqual(product((one, other), (third, fourth)), (both[0] * both[1]).as_integer_ratio())
            self.assertEqual(quotient((one, other), (third, fourth)), (both[0] / both[1]).as_integer_ratio())

    def test_least_whole(self):
        self.assertEqual(least_whole([(5, 7)]), [1])
        self.assertEqual(least_whole([(1, 2), (1, 3)]), [3, 2])
        self.assertEqual(least_whole([(2, 3), (4, 3)]), [1, 2])
        self.assertEqual(least_whole([(6, 1), (4, 1), (2, 5)]), [15, 10, 1])
        self.assertEqual(least_whole([]), [])


if __name__ == "__main__":
    unittest.main()
