import random
import unittest

from hangstill.errors import NoMobile, NoWeights
from hangstill.mobiles import is_still, leaves, load, tips

from samples import (A, B, C, D, DEEP, ODD_THINGS, WRONG_MOBILES, WRONG_WEIGHTS, all_leaves, chain, left_chain,
                     names_of, random_mobiles, rod, stays, weighs, weight)

ONES = (("a", 1), ("b", 1), ("c", 1))


class WhatMobilesAre(unittest.TestCase):
    def test_names_of_1_to_3_letters(self):
        for name in ("a", "z", "az", "aaa", "zzz", "mno"):
            self.assertEqual(leaves(weight(name)), [("", name)])

    def test_arms_from_1_to_9(self):
        for left in range(1, 10):
            for right in range(1, 10):
                self.assertEqual(leaves(rod(left, right, A, B)), [("l", "a"), ("r", "b")])

    def test_5_rods_within_one_another(self):
        self.assertEqual(len(leaves(chain(5))), 6)
        self.assertEqual(len(leaves(left_chain(5))), 6)
        self.assertEqual(len(leaves(rod(1, 1, chain(4), left_chain(4)))), 10)

    def test_6_rods_within_one_another(self):
        for mobile in (chain(6), left_chain(6), rod(1, 1, A, left_chain(5)), rod(1, 1, chain(5), A)):
            self.assertRaises(NoMobile, leaves, mobile)

    def test_no_mobiles(self):
        for number, thing in enumerate(WRONG_MOBILES):
            with self.subTest(number=number):
                self.assertRaises(NoMobile, leaves, thing)
                self.assertRaises(NoMobile, load, thing, ONES)
                self.assertRaises(NoMobile, tips, thing, ONES)
                self.assertRaises(NoMobile, is_still, thing, ONES)

    def test_what_is_nested_very_deep(self):
        mobile = A
        for rods in range(5000):
            mobile = rod(1, 1, mobile, mobile)
        self.assertRaises(NoMobile, leaves, mobile)


class Leaves(unittest.TestCase):
    def test_a_weight_alone(self):
        self.assertEqual(leaves(A), [("", "a")])

    def test_left_ones_ahead(self):
        self.assertEqual(leaves(DEEP), [("l", "a"), ("rl", "b"), ("rr", "c")])
        mobile = rod(9, 1, rod(1, 1, rod(2, 3, D, C), B), rod(4, 5, A, rod(1, 1, A, D)))
        told = [("lll", "d"), ("llr", "c"), ("lr", "b"), ("rl", "a"), ("rrl", "a"), ("rrr", "d")]
        self.assertEqual(leaves(mobile), told)

    def test_ways_lead_to_the_names(self):
        for mobile in random_mobiles(1, 100, rods=5):
            told = leaves(mobile)
            self.assertEqual([name for way, name in told], all_leaves(mobile))
            for way, name in told:
                part = mobile
                for sign in way:
                    part = part[3] if sign == "l" else part[4]
                self.assertEqual(part, weight(name))


class Loads(unittest.TestCase):
    def test_a_weight_alone(self):
        self.assertEqual(load(A, (("a", 7),)), 7)

    def test_all_in_it_and_rods_weigh_nothing(self):
        self.assertEqual(load(DEEP, (("a", 7), ("b", 20), ("c", 300))), 327)

    def test_a_name_several_times(self):
        self.assertEqual(load(rod(1, 1, A, rod(1, 1, A, B)), (("a", 7), ("b", 20))), 34)

    def test_more_names(self):
        self.assertEqual(load(B, (("a", 1), ("aa", 2), ("b", 3), ("c", 4))), 3)
        self.assertEqual(load(rod(1, 1, A, B), (("a", 5), ("b", 6), ("zzz", 999999))), 11)

    def test_numbers_from_1_to_999999(self):
        self.assertEqual(load(A, (("a", 1),)), 1)
        self.assertEqual(load(A, (("a", 999999),)), 999999)
        self.assertEqual(load(rod(1, 1, A, A), (("a", 999999),)), 1999998)

    def test_random_ones(self):
        for mobile in random_mobiles(2, 100):
            numbers = {"a": 3, "b": 50, "c": 700, "d": 11000}
            self.assertEqual(load(mobile, tuple(numbers.items())), weighs(mobile, numbers))


class Tips(unittest.TestCase):
    def test_a_weight_alone_is_still(self):
        self.assertEqual(tips(A, (("a", 7),)), [])
        self.assertIs(is_still(A, (("a", 7),)), True)

    def test_to_the_left(self):
        self.assertEqual(tips(rod(2, 1, A, B), (("a", 1), ("b", 1))), [("", "left")])
        self.assertEqual(tips(rod(1, 1, A, B), (("a", 2), ("b", 1))), [("", "left")])
        self.assertIs(is_still(rod(2, 1, A, B), (("a", 1), ("b", 1))), False)

    def test_to_the_right(self):
        self.assertEqual(tips(rod(1, 2, A, B), (("a", 1), ("b", 1))), [("", "right")])
        self.assertEqual(tips(rod(1, 1, A, B), (("a", 1), ("b", 2))), [("", "right")])
        self.assertIs(is_still(rod(1, 2, A, B), (("a", 1), ("b", 1))), False)

    def test_still(self):
        self.assertEqual(tips(rod(1, 2, A, B), (("a", 2), ("b", 1))), [])
        self.assertIs(is_still(rod(1, 2, A, B), (("a", 2), ("b", 1))), True)
        self.assertIs(is_still(DEEP, (("a", 2), ("b", 3), ("c", 1))), True)

    def test_by_all_that_hangs_there(self):
        self.assertEqual(tips(rod(1, 1, rod(1, 1, A, B), rod(1, 1, C, D)),
                              (("a", 2), ("b", 2), ("c", 1), ("d", 3))), [("r", "right")])

    def test_still_above_and_not_below(self):
        weights = (("a", 2), ("b", 1), ("c", 3))
        self.assertEqual(tips(DEEP, weights), [("r", "right")])
        self.assertIs(is_still(DEEP, weights), False)

    def test_still_below_and_not_above(self):
        weights = (("a", 3), ("b", 3), ("c", 1))
        self.assertEqual(tips(DEEP, weights), [("", "left")])
        self.assertIs(is_still(DEEP, weights), False)

    def test_the_order_of_several(self):
        left = rod(1, 1, rod(2, 1, A, A), rod(1, 2, A, A))
        right = rod(3, 1, A, rod(1, 1, A, rod(1, 2, A, A)))
        told = [("", "left"), ("ll", "left"), ("lr", "right"), ("rr", "right"), ("rrr", "right")]
        self.assertEqual(tips(rod(2, 1, left, right), (("a", 1),)), told)

    def test_more_names(self):
        self.assertEqual(tips(rod(1, 1, A, C), (("a", 1), ("b", 9), ("c", 2), ("d", 5))), [("", "right")])
        self.assertIs(is_still(rod(1, 1, A, C), (("a", 2), ("b", 9), ("c", 2), ("d", 5))), True)

    def test_still_just_if_no_rod_tips(self):
        chance = random.Random(3)
        for mobile in random_mobiles(3, 300, rods=2, longest=2):
            numbers = {name: chance.randint(1, 2) for name in "abcd"}
            weights = tuple(numbers.items())
            self.assertIs(is_still(mobile, weights), stays(mobile, numbers))
            self.assertEqual(tips(mobile, weights) == [], stays(mobile, numbers))


class Weights(unittest.TestCase):
    def test_no_weights(self):
        for number, thing in enumerate(WRONG_WEIGHTS):
            with self.subTest(number=number):
                self.assertRaises(NoWeights, load, DEEP, thing)
                self.assertRaises(NoWeights, tips, DEEP, thing)
                self.assertRaises(NoWeights, is_still, DEEP, thing)

    def test_the_numbers_bounds(self):
        for wrong in (0, 1000000, -5, True, False):
            self.assertRaises(NoWeights, load, A, (("a", wrong),))
            self.assertRaises(NoWeights, tips, rod(1, 1, A, A), (("a", wrong),))
            self.assertRaises(NoWeights, is_still, A, (("a", wrong),))
            self.assertRaises(NoWeights, load, A, (("a", 1), ("b", wrong)))

    def test_a_name_of_the_mobile_is_missing(self):
        for weights in ((), (("a", 1),), (("b", 1), ("c", 1)), (("a", 1), ("b", 1)), (("a", 1), ("c", 1), ("d", 1))):
            self.assertRaises(NoWeights, load, DEEP, weights)
            self.assertRaises(NoWeights, tips, DEEP, weights)
            self.assertRaises(NoWeights, is_still, DEEP, weights)
        self.assertRaises(NoWeights, load, A, ())

    def test_no_mobile_is_named_first(self):
        for thing in ODD_THINGS + [chain(6), weight(""), rod(0, 1, A, B)]:
            for weights in (None, (), [], (("b", 1), ("a", 1)), (("a", True),)):
                self.assertRaises(NoMobile, load, thing, weights)
                self.assertRaises(NoMobile, tips, thing, weights)
                self.assertRaises(NoMobile, is_still, thing, weights)

    def test_names_rise_as_texts(self):
        weights = (("a", 1), ("aa", 2), ("ab", 3), ("abc", 4), ("b", 5), ("ba", 6))
        self.assertEqual(load(rod(1, 1, weight("abc"), weight("ba")), weights), 10)
        self.assertEqual(names_of(rod(1, 1, weight("abc"), weight("ba"))), {"abc", "ba"})


if __name__ == "__main__":
    unittest.main()
