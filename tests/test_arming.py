import random
import unittest
from itertools import product
from math import gcd

from hangstill.arming import arms_for, how_many_arms
from hangstill.errors import NoMobile, NoWeights, TooLong
from hangstill.mobiles import is_still, leaves

from samples import (A, B, C, D, DEEP, WRONG_MOBILES, WRONG_WEIGHTS, at_way, chain, fitting_mobile, names_of,
                     random_mobiles, rod, rod_ways, stays, told_weights, weight, with_arms)

HALF = rod(1, 1, rod(1, 1, A, B), C)


def fitting_arms(mobile, numbers):
    """All arms that fit, as mobiles, gone through rod by rod."""
    if mobile[0] == "weight":
        return [mobile]
    told = []
    for one in fitting_arms(mobile[3], numbers):
        for other in fitting_arms(mobile[4], numbers):
            for left, right in product(range(1, 10), repeat=2):
                if stays(rod(left, right, one, other), numbers):
                    told.append(rod(left, right, one, other))
    return told


def bare_mobiles(seed, how_many, rods):
    """Mobiles with whatever arms, and small weights."""
    chance = random.Random(seed)
    told = []
    for mobile in random_mobiles(seed, how_many, rods=rods, longest=9):
        told.append((mobile, {name: chance.choice((1, 2, 3, 4, 6, 8)) for name in "abcd"}))
    return told


class ArmsFor(unittest.TestCase):
    def test_a_weight_alone(self):
        self.assertEqual(arms_for(A, (("a", 7),)), A)
        self.assertEqual(arms_for(B, (("a", 7), ("b", 999999))), B)

    def test_one_that_hangs_still(self):
        self.assertEqual(arms_for(rod(1, 2, A, B), (("a", 2), ("b", 1))), rod(1, 2, A, B))
        self.assertEqual(arms_for(DEEP, (("a", 2), ("b", 3), ("c", 1))), DEEP)
        # As short as they can be, also where those it has are longer.
        self.assertEqual(arms_for(rod(3, 6, A, B), (("a", 2), ("b", 1))), rod(1, 2, A, B))

    def test_one_that_does_not(self):
        self.assertEqual(arms_for(rod(1, 2, A, B), (("a", 1), ("b", 3))), rod(3, 1, A, B))
        self.assertEqual(arms_for(DEEP, (("a", 4), ("b", 1), ("c", 1))), rod(1, 2, A, rod(1, 1, B, C)))
        self.assertEqual(arms_for(rod(1, 2, A, A), (("a", 5),)), rod(1, 1, A, A))

    def test_by_all_that_hangs_there(self):
        self.assertEqual(arms_for(HALF, (("a", 2), ("b", 4), ("c", 8))), rod(4, 3, rod(2, 1, A, B), C))

    def test_more_names(self):
        weights = (("a", 2), ("aa", 1), ("b", 4), ("c", 8), ("d", 999999))
        self.assertEqual(arms_for(HALF, weights), rod(4, 3, rod(2, 1, A, B), C))
        self.assertEqual(arms_for(rod(1, 1, A, C), weights), rod(4, 1, A, C))

    def test_arms_of_9(self):
        self.assertEqual(arms_for(rod(1, 1, A, B), (("a", 1), ("b", 9))), rod(9, 1, A, B))
        self.assertEqual(arms_for(rod(1, 1, A, B), (("a", 9), ("b", 7))), rod(7, 9, A, B))
        self.assertEqual(arms_for(rod(1, 1, A, B), (("a", 999999), ("b", 111111))), rod(1, 9, A, B))

    def test_an_arm_longer_than_9(self):
        for numbers in ((1, 10), (10, 1), (10, 9), (9, 10), (13, 11), (1, 999999), (999999, 999998)):
            weights = (("a", numbers[0]), ("b", numbers[1]))
            self.assertRaises(TooLong, arms_for, rod(1, 1, A, B), weights)
            self.assertRaises(TooLong, arms_for, rod(9, 9, B, A), weights)

    def test_an_arm_too_long_further_down(self):
        weights = (("a", 1), ("b", 10), ("c", 11))
        self.assertRaises(TooLong, arms_for, rod(1, 1, rod(1, 1, A, B), C), weights)
        self.assertRaises(TooLong, arms_for, rod(1, 1, C, rod(1, 1, A, B)), weights)
        # Below it fits, above it does not.
        self.assertRaises(TooLong, arms_for, rod(1, 1, rod(1, 1, A, A), C), (("a", 1), ("c", 19)))

    def test_five_deep(self):
        weights = told_weights({"a": 1, "b": 1, "c": 2, "d": 4, "e": 8, "f": 16})
        mobile = with_arms(chain(5), iter([3, 7] * 5))
        self.assertEqual(arms_for(mobile, weights), chain(5))

    def test_against_all_arms(self):
        seen = {True: 0, False: 0}
        for mobile, numbers in bare_mobiles(81, 150, 2):
            fitting = fitting_arms(mobile, numbers)
            seen[fitting == []] += 1
            weights = told_weights(numbers)
            if fitting == []:
                self.assertRaises(TooLong, arms_for, mobile, weights)
                continue
            told = arms_for(mobile, weights)
            self.assertIn(told, fitting)
            for other in fitting:
                for way in rod_ways(told):
                    self.assertLessEqual(at_way(told, way)[1], at_way(other, way)[1])
                    self.assertLessEqual(at_way(told, way)[2], at_way(other, way)[2])
        self.assertGreater(min(seen.values()), 5)

    def test_random_ones_that_fit(self):
        chance = random.Random(82)
        for number in range(200):
            numbers = {name: chance.choice((1, 2, 3, 4, 6, 9, 12)) for name in "abcdefgh"}
            mobile = fitting_mobile(chance, numbers, 5)
            other = with_arms(mobile, iter([chance.randint(1, 9) for arm in range(2 * len(rod_ways(mobile)))]))
            told = arms_for(other, told_weights(numbers))
            self.assertEqual(told, mobile)
            self.assertEqual(leaves(told), leaves(other))
            self.assertIs(is_still(told, told_weights(numbers)), True)
            for way in rod_ways(told):
                self.assertEqual(gcd(*at_way(told, way)[1:3]), 1)


class HowManyArms(unittest.TestCase):
    def test_a_weight_alone(self):
        self.assertEqual(how_many_arms(A, (("a", 7),)), 1)

    def test_a_rod(self):
        self.assertEqual(how_many_arms(rod(1, 1, A, A), (("a", 3),)), 9)
        for number, many in ((1, 9), (2, 4), (3, 3), (4, 2), (5, 1), (9, 1), (10, 0), (999999, 0)):
            self.assertEqual(how_many_arms(rod(1, 1, A, B), (("a", 1), ("b", number))), many)
            self.assertEqual(how_many_arms(rod(5, 9, B, A), (("a", 1), ("b", number))), many)
        self.assertEqual(how_many_arms(rod(1, 1, A, B), (("a", 20), ("b", 30))), 3)

    def test_several_rods(self):
        self.assertEqual(how_many_arms(HALF, (("a", 2), ("b", 4), ("c", 6))), 36)
        self.assertEqual(how_many_arms(HALF, (("a", 2), ("b", 4), ("c", 8))), 8)
        self.assertEqual(how_many_arms(DEEP, (("a", 2), ("b", 3), ("c", 1))), 12)

    def test_the_most(self):
        mobile = A
        for rods in range(5):
            mobile = rod(1, 2, mobile, mobile)
        self.assertEqual(how_many_arms(mobile, (("a", 1),)), 9 ** 31)

    def test_none(self):
        self.assertEqual(how_many_arms(rod(1, 1, rod(1, 1, A, B), C), (("a", 1), ("b", 10), ("c", 11))), 0)
        self.assertEqual(how_many_arms(rod(1, 1, rod(1, 1, A, A), C), (("a", 1), ("c", 19))), 0)
        self.assertEqual(how_many_arms(rod(1, 1, C, rod(1, 1, A, A)), (("a", 1), ("c", 20))), 0)

    def test_more_names(self):
        weights = (("a", 2), ("aa", 1), ("b", 4), ("c", 6), ("d", 999999))
        self.assertEqual(how_many_arms(HALF, weights), 36)
        self.assertEqual(how_many_arms(C, weights), 1)

    def test_against_all_arms(self):
        seen = set()
        for mobile, numbers in bare_mobiles(83, 150, 2):
            told = how_many_arms(mobile, told_weights(numbers))
            self.assertEqual(told, len(fitting_arms(mobile, numbers)))
            seen.add(told)
        self.assertGreater(len(seen), 8)

    def test_two_rods_with_all_arms_gone_through(self):
        for numbers in ({"a": 1, "b": 2, "c": 3}, {"a": 5, "b": 4, "c": 6}, {"a": 1, "b": 10, "c": 11}):
            fitting = [arms for arms in product(range(1, 10), repeat=4) if stays(with_arms(HALF, iter(arms)), numbers)]
            self.assertEqual(how_many_arms(HALF, told_weights(numbers)), len(fitting))


class Refusals(unittest.TestCase):
    def test_no_weights(self):
        for number, thing in enumerate(WRONG_WEIGHTS):
            with self.subTest(number=number):
                self.assertRaises(NoWeights, arms_for, DEEP, thing)
                self.assertRaises(NoWeights, how_many_arms, DEEP, thing)

    def test_the_numbers_bounds(self):
        for wrong in (0, 1000000, -1, True, False):
            for function in (arms_for, how_many_arms):
                self.assertRaises(NoWeights, function, A, (("a", wrong),))
                self.assertRaises(NoWeights, function, A, (("a", 1), ("b", wrong)))

    def test_a_name_is_missing(self):
        self.assertEqual(names_of(DEEP), {"a", "b", "c"})
        for weights in ((), (("a", 1),), (("a", 1), ("b", 1)), (("b", 1), ("c", 1)), (("a", 1), ("b", 100), ("d", 1))):
            self.assertRaises(NoWeights, arms_for, DEEP, weights)
            self.assertRaises(NoWeights, how_many_arms, DEEP, weights)
        self.assertRaises(NoWeights, arms_for, D, (("a", 1),))
        self.assertRaises(NoWeights, how_many_arms, weight("dd"), (("d", 1),))

    def test_no_mobile_is_named_first(self):
        for number, thing in enumerate(WRONG_MOBILES):
            with self.subTest(number=number):
                for weights in ((("a", 1), ("b", 100), ("c", 1)), (), None, [], (("a", 0),)):
                    self.assertRaises(NoMobile, arms_for, thing, weights)
                    self.assertRaises(NoMobile, how_many_arms, thing, weights)


if __name__ == "__main__":
    unittest.main()
