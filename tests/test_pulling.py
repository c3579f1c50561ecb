import random
import unittest

from hangstill.errors import NoMobile, NoWay, NoWeights
from hangstill.mobiles import is_still, tips
from hangstill.pulling import pull, worst
from hangstill.shares import bar, least

from samples import (A, B, BARRED, C, D, DEEP, TWICE, WRONG_MOBILES, WRONG_WAYS, WRONG_WEIGHTS, at_way, chain,
                     fitting_mobile, leaf_ways, left_chain, names_of, random_mobiles, rod, rod_ways, told_weights,
                     weighs, weight)

WEIGHTS = (("a", 1), ("b", 3), ("c", 5))
# At the top 2 to 8, further down 3 to 15.
DEEP_PULLS = {"": (2, 8), "r": (3, 15)}


def random_cases(seed, how_many, largest):
    chance = random.Random(seed)
    told = []
    for mobile in random_mobiles(seed, how_many, names="abcde", rods=5, longest=9):
        told.append((mobile, {name: chance.randint(1, largest) for name in "abcde"}))
    return told


def surely_pulls(mobile, numbers, way):
    part = at_way(mobile, way)
    return (part[1] * weighs(part[3], numbers), part[2] * weighs(part[4], numbers))


def surely_worst(mobile, numbers):
    """All rods in order by the document's words: of the most unlike ones the first."""
    unlike = [(max(both) - min(both), way) for way in rod_ways(mobile) for both in [surely_pulls(mobile, numbers, way)]]
    most = max([number for number, way in unlike], default=0)
    return None if most == 0 else [way for number, way in unlike if number == most][0]


class Pull(unittest.TestCase):
    def test_at_the_top_and_further_down(self):
        for way, both in DEEP_PULLS.items():
            self.assertEqual(pull(DEEP, WEIGHTS, way), both)
        self.assertIsInstance(pull(DEEP, WEIGHTS, ""), tuple)

    def test_a_still_rod(self):
        self.assertEqual(pull(rod(1, 2, A, B), (("a", 4), ("b", 2)), ""), (4, 4))
        self.assertEqual(pull(DEEP, (("a", 2), ("b", 3), ("c", 1)), ""), (4, 4))
        self.assertEqual(pull(DEEP, (("a", 2), ("b", 3), ("c", 1)), "r"), (3, 3))

    def test_to_either_side(self):
        self.assertEqual(pull(rod(3, 2, A, B), (("a", 5), ("b", 7)), ""), (15, 14))
        self.assertEqual(pull(rod(2, 3, A, B), (("a", 5), ("b", 7)), ""), (10, 21))

    def test_a_still_rod_within_one_that_tips(self):
        mobile = rod(1, 9, rod(1, 2, A, B), C)
        weights = (("a", 2), ("b", 1), ("c", 1))
        self.assertEqual(pull(mobile, weights, ""), (3, 9))
        self.assertEqual(pull(mobile, weights, "l"), (2, 2))

    def test_more_names(self):
        more = WEIGHTS + (("d", 7), ("zzz", 999999))
        for way, both in DEEP_PULLS.items():
            self.assertEqual(pull(DEEP, more, way), both)
        self.assertEqual(pull(rod(1, 2, B, B), WEIGHTS, ""), (3, 6))

    def test_a_name_several_times(self):
        self.assertEqual(pull(TWICE, (("a", 4), ("b", 5)), ""), (9, 9))
        self.assertEqual(pull(TWICE, (("a", 4), ("b", 5)), "l"), (8, 5))
        self.assertEqual(pull(TWICE, (("a", 4), ("b", 5)), "r"), (5, 8))

    def test_where_it_can_not_hang_still(self):
        self.assertEqual(pull(BARRED, (("a", 4), ("b", 5)), ""), (4, 18))
        self.assertEqual(pull(BARRED, (("a", 4), ("b", 5)), "r"), (4, 5))

    def test_the_greatest_numbers(self):
        self.assertEqual(pull(rod(9, 9, A, B), (("a", 999999), ("b", 999998)), ""), (8999991, 8999982))
        mobile = A
        for rods in range(5):
            mobile = rod(9, 9, mobile, mobile)
        self.assertEqual(pull(mobile, (("a", 999999),), ""), (9 * 16 * 999999,) * 2)
        self.assertEqual(pull(mobile, (("a", 999999),), "lrlr"), (9 * 999999,) * 2)

    def test_random_ones(self):
        for mobile, numbers in random_cases(81, 200, 999999):
            for way in rod_ways(mobile):
                self.assertEqual(pull(mobile, told_weights(numbers), way), surely_pulls(mobile, numbers, way))
            for way in leaf_ways(mobile):
                self.assertRaises(NoWay, pull, mobile, told_weights(numbers), way)

    def test_as_tips_tells(self):
        for mobile, numbers in random_cases(82, 100, 6):
            sides = dict(tips(mobile, told_weights(numbers)))
            for way in rod_ways(mobile):
                left, right = pull(mobile, told_weights(numbers), way)
                side = "left" if left > right else "right" if left < right else None
                self.assertEqual(sides.get(way), side)

    def test_no_rod(self):
        for way in ("l", "rl", "rr", "ll", "lr", "rll", "rrr"):
            self.assertRaises(NoWay, pull, DEEP, WEIGHTS, way)
        for way in ("", "l", "r"):
            self.assertRaises(NoWay, pull, A, WEIGHTS, way)
        self.assertRaises(NoWay, pull, chain(5), told_weights({name: 1 for name in "abcdef"}), "rrrrr")

    def test_what_is_no_way(self):
        for number, way in enumerate(WRONG_WAYS):
            with self.subTest(number=number):
                self.assertRaises(NoWay, pull, DEEP, WEIGHTS, way)
                self.assertRaises(NoWay, pull, A, WEIGHTS, way)

    def test_no_weights_is_named_ahead_of_no_way(self):
        for number, thing in enumerate(WRONG_WEIGHTS):
            with self.subTest(number=number):
                for way in ("", "r", "l", "x", None):
                    self.assertRaises(NoWeights, pull, DEEP, thing, way)
        for weights in ((), WEIGHTS[:2], WEIGHTS[1:]):
            for way in ("", "r", "l", "x", None):
                # Also where what hangs at the rod itself has all its weights.
                self.assertRaises(NoWeights, pull, DEEP, weights, way)

    def test_no_mobile_is_named_first(self):
        for number, thing in enumerate(WRONG_MOBILES):
            with self.subTest(number=number):
                for weights in (WEIGHTS, (), None, [("a", 1)]):
                    for way in ("", "x", None):
                        self.assertRaises(NoMobile, pull, thing, weights, way)


class Worst(unittest.TestCase):
    def test_it_hangs_still(self):
        self.assertIsNone(worst(DEEP, (("a", 2), ("b", 3), ("c", 1))))
        self.assertIsNone(worst(rod(1, 1, A, A), WEIGHTS))
        for mobile in random_mobiles(83, 200, rods=3):
            if bar(mobile) is None and max(dict(least(mobile)).values()) <= 999999:
                self.assertIsNone(worst(mobile, least(mobile)))

    def test_a_weight_alone(self):
        self.assertIsNone(worst(A, WEIGHTS))
        self.assertIsNone(worst(A, (("a", 999999),)))

    def test_at_the_top(self):
        self.assertEqual(worst(rod(1, 1, A, B), WEIGHTS), "")
        self.assertEqual(worst(rod(1, 1, B, A), WEIGHTS), "")
        # 16 at the top, 2 and 4 further down.
        self.assertEqual(worst(rod(5, 1, rod(1, 1, A, B), rod(1, 1, C, A)), WEIGHTS), "")

    def test_further_down(self):
        self.assertEqual(worst(DEEP, WEIGHTS), "r")
        self.assertEqual(worst(rod(1, 1, rod(9, 1, A, C), B), WEIGHTS), "l")
        # At both sides of a still rod: 8 left, 2 right.
        mobile = rod(1, 1, rod(3, 1, B, A), rod(3, 1, A, C))
        self.assertEqual(worst(mobile, WEIGHTS), "l")
        self.assertEqual(worst(rod(1, 1, mobile[4], mobile[3]), WEIGHTS), "r")

    def test_four_rods_further_down(self):
        weights = (("a", 999999), ("b", 1))
        mobile = rod(9, 1, A, B)
        way = ""
        self.assertEqual(worst(mobile, weights), way)
        for side in "lrlr":
            mobile = rod(1, 1, mobile, A) if side == "l" else rod(1, 1, A, mobile)
            way = side + way
            self.assertEqual(worst(mobile, weights), way)

    def test_by_which_side_does_not_matter(self):
        mobile = rod(1, 1, rod(1, 1, A, C), rod(1, 1, D, B))
        self.assertEqual(worst(mobile, (("a", 1), ("b", 8), ("c", 6), ("d", 2))), "r")
        self.assertEqual(worst(mobile, (("a", 9), ("b", 2), ("c", 1), ("d", 8))), "l")
        self.assertEqual(worst(mobile, (("a", 1), ("b", 1), ("c", 6), ("d", 7))), "r")

    def test_by_difference_not_by_times(self):
        mobile = rod(9, 1, rod(1, 1, A, B), rod(1, 1, C, D))
        weights = (("a", 1), ("b", 9), ("c", 30), ("d", 50))
        self.assertEqual([pull(mobile, weights, way) for way in ("", "l", "r")], [(90, 80), (1, 9), (30, 50)])
        self.assertEqual(worst(mobile, weights), "r")

    def test_as_much_unlike_the_first_one(self):
        weights = (("a", 1), ("b", 3))
        # 2 at either side, nothing at the top.
        self.assertEqual(worst(rod(1, 1, rod(1, 1, A, B), rod(1, 1, B, A)), weights), "l")
        self.assertEqual(worst(rod(1, 1, rod(1, 1, B, A), rod(1, 1, A, B)), weights), "l")
        # 2 at the top and at the left, or right.
        self.assertEqual(worst(rod(1, 1, rod(1, 1, A, B), rod(1, 1, A, A)), weights), "")
        self.assertEqual(worst(rod(1, 1, rod(1, 1, A, A), rod(1, 1, A, B)), weights), "")
        # 2 at "ll" and "r": what is in the left one comes ahead of the right one, though it lies further down.
        left = rod(1, 1, rod(1, 1, A, B), weight("d"))
        weights = (("a", 1), ("b", 3), ("d", 4))
        self.assertEqual(worst(rod(1, 2, left, rod(1, 1, A, B)), weights), "ll")
        self.assertEqual(worst(rod(2, 1, rod(1, 1, A, B), left), weights), "l")

    def test_more_names(self):
        self.assertEqual(worst(DEEP, WEIGHTS + (("d", 7), ("zzz", 999999))), "r")
        self.assertIsNone(worst(rod(1, 1, B, B), WEIGHTS))

    def test_where_it_can_not_hang_still(self):
        self.assertEqual(worst(BARRED, (("a", 4), ("b", 5))), "")
        self.assertEqual(worst(rod(1, 2, A, A), (("a", 1),)), "")

    def test_random_ones(self):
        seen = {}
        for largest in (2, 3, 6, 999999):
            for mobile, numbers in random_cases(f"84 {largest}", 200, largest):
                told = worst(mobile, told_weights(numbers))
                self.assertEqual(told, surely_worst(mobile, numbers))
                self.assertEqual(told is None, is_still(mobile, told_weights(numbers)))
                seen[told] = seen.get(told, 0) + 1
        self.assertTrue(set(seen) >= {None, "", "l", "r", "ll", "lr", "rl", "rr"})

    def test_random_ones_with_small_arms(self):
        chance = random.Random(85)
        alike = 0
        for mobile in random_mobiles(85, 300, names="ab", rods=4, longest=1):
            numbers = {"a": chance.randint(1, 2), "b": chance.randint(1, 2)}
            self.assertEqual(worst(mobile, told_weights(numbers)), surely_worst(mobile, numbers))
            both = [surely_pulls(mobile, numbers, way) for way in rod_ways(mobile)]
            unlike = [abs(left - right) for left, right in both]
            alike += unlike != [] and max(unlike) > 0 and unlike.count(max(unlike)) > 1
        self.assertGreater(alike, 30)

    def test_fitting_ones_with_one_weight_changed(self):
        chance = random.Random(86)
        for number in range(100):
            numbers = {name: chance.choice((1, 2, 3, 4, 6, 9, 12)) for name in "abcde"}
            mobile = fitting_mobile(chance, numbers, 4)
            self.assertIsNone(worst(mobile, told_weights(numbers)))
            numbers[chance.choice(sorted(names_of(mobile)))] += 1
            self.assertEqual(worst(mobile, told_weights(numbers)), surely_worst(mobile, numbers))

    def test_no_weights(self):
        for number, thing in enumerate(WRONG_WEIGHTS):
            with self.subTest(number=number):
                self.assertRaises(NoWeights, worst, DEEP, thing)
                self.assertRaises(NoWeights, worst, A, thing)
        for weights in ((), WEIGHTS[:2], WEIGHTS[1:]):
            self.assertRaises(NoWeights, worst, DEEP, weights)
        self.assertRaises(NoWeights, worst, D, WEIGHTS)

    def test_no_mobile_is_named_first(self):
        for number, thing in enumerate(WRONG_MOBILES):
            with self.subTest(number=number):
                for weights in (WEIGHTS, (), None, [("a", 1)], (("a", 0),)):
                    self.assertRaises(NoMobile, worst, thing, weights)
        self.assertRaises(NoMobile, worst, left_chain(6), ())


if __name__ == "__main__":
    unittest.main()
