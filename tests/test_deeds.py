import random
import unittest
from math import gcd

from hangstill.deeds import hung, longer, plain, put, turned
from hangstill.errors import NoMobile, NoNumber, NoWay, NoWeights, TooDeep, TooLong
from hangstill.mobiles import is_still, leaves
from hangstill.shares import alike

from samples import (A, ANY, B, BARRED, C, D, DEEP, ODD_THINGS, Strange, TWICE, WRONG_MOBILES, WRONG_WAYS,
                     WRONG_WEIGHTS, at_way, chain, depth, fitting_mobile, leaf_ways, left_chain, names_of,
                     random_mobiles, rod, rod_ways, stays, told_weights, weighs, weight)

WRONG_MANY = [0, 10, -1, 11, 100, 10 ** 30, True, False, None, "", "1", "2", (), (2,), [2], {2: 2}, b"2", range(3),
              Strange(), ANY]


def others_stay(test, before, after, way):
    """Off the way all is as it was, and so are the arms on it."""
    for at in range(len(way)):
        one = at_way(before, way[:at])
        other = at_way(after, way[:at])
        test.assertEqual(one[:3], other[:3])
        aside = 4 if way[at] == "l" else 3
        test.assertEqual(one[aside], other[aside])


class Turned(unittest.TestCase):
    def test_at_the_top(self):
        self.assertEqual(turned(rod(1, 2, A, B), ""), rod(2, 1, B, A))
        self.assertEqual(turned(DEEP, ""), rod(1, 2, rod(1, 3, B, C), A))

    def test_further_down(self):
        self.assertEqual(turned(DEEP, "r"), rod(2, 1, A, rod(3, 1, C, B)))
        mobile = rod(1, 2, rod(3, 4, A, rod(5, 6, B, C)), rod(7, 8, C, D))
        self.assertEqual(turned(mobile, "l"), rod(1, 2, rod(4, 3, rod(5, 6, B, C), A), rod(7, 8, C, D)))
        self.assertEqual(turned(mobile, "r"), rod(1, 2, rod(3, 4, A, rod(5, 6, B, C)), rod(8, 7, D, C)))
        self.assertEqual(turned(mobile, "lr"), rod(1, 2, rod(3, 4, A, rod(6, 5, C, B)), rod(7, 8, C, D)))

    def test_the_deepest_rod(self):
        self.assertEqual(at_way(turned(chain(5), "rrrr"), "rrrr"), rod(1, 1, A, B))
        self.assertEqual(at_way(turned(left_chain(5), "llll"), "llll"), rod(1, 1, B, A))

    def test_with_like_sides(self):
        self.assertEqual(turned(rod(3, 3, A, A), ""), rod(3, 3, A, A))
        self.assertEqual(turned(rod(3, 4, A, A), ""), rod(4, 3, A, A))

    def test_random_ones(self):
        for mobile in random_mobiles(61, 100, rods=5, longest=9):
            for way in rod_ways(mobile):
                told = turned(mobile, way)
                before = at_way(mobile, way)
                self.assertEqual(at_way(told, way), rod(before[2], before[1], before[4], before[3]))
                others_stay(self, mobile, told, way)
                self.assertEqual(turned(told, way), mobile)
                self.assertIs(alike(mobile, told), True)

    def test_a_mobile_that_is_barred(self):
        self.assertEqual(turned(BARRED, ""), rod(2, 1, rod(1, 1, A, B), A))
        self.assertIs(alike(BARRED, turned(BARRED, "")), True)

    def test_a_way_to_a_weight(self):
        for mobile in (A, DEEP, TWICE, chain(5)):
            for way in leaf_ways(mobile):
                self.assertRaises(NoWay, turned, mobile, way)

    def test_a_way_to_nothing(self):
        for mobile in (A, DEEP, TWICE, chain(5)):
            for way in leaf_ways(mobile):
                for more in ("l", "r", "ll", "rl", "lrlrlr"):
                    self.assertRaises(NoWay, turned, mobile, way + more)

    def test_what_is_no_way(self):
        for number, way in enumerate(WRONG_WAYS):
            with self.subTest(number=number):
                self.assertRaises(NoWay, turned, DEEP, way)
                self.assertRaises(NoWay, turned, A, way)
                self.assertRaises(NoWay, turned, chain(5), way)

    def test_no_mobile_is_named_first(self):
        for number, thing in enumerate(WRONG_MOBILES):
            with self.subTest(number=number):
                for way in ("", "l", "llllll", "x", None, 3, Strange()):
                    self.assertRaises(NoMobile, turned, thing, way)


class Longer(unittest.TestCase):
    def test_by_1(self):
        for mobile in (rod(1, 2, A, B), rod(9, 9, A, B), DEEP):
            self.assertEqual(longer(mobile, "", 1), mobile)
        self.assertEqual(longer(DEEP, "r", 1), DEEP)

    def test_both_arms(self):
        self.assertEqual(longer(rod(1, 2, A, B), "", 3), rod(3, 6, A, B))
        self.assertEqual(longer(DEEP, "", 2), rod(4, 2, A, rod(1, 3, B, C)))
        self.assertEqual(longer(DEEP, "r", 2), rod(2, 1, A, rod(2, 6, B, C)))
        self.assertEqual(at_way(longer(chain(5), "rrrr", 9), "rrrr"), rod(9, 9, B, A))

    def test_as_much_as_just_fits(self):
        for left in range(1, 10):
            for right in range(1, 10):
                most = 9 // max(left, right)
                mobile = rod(2, 5, rod(left, right, A, B), C)
                told = longer(mobile, "l", most)
                self.assertEqual(told, rod(2, 5, rod(left * most, right * most, A, B), C))
                self.assertIs(alike(told, mobile), True)
                if most < 9:
                    self.assertRaises(TooLong, longer, mobile, "l", most + 1)
                    self.assertRaises(TooLong, longer, mobile, "l", 9)

    def test_either_arm_too_long(self):
        self.assertRaises(TooLong, longer, rod(1, 5, A, B), "", 2)
        self.assertRaises(TooLong, longer, rod(5, 1, A, B), "", 2)
        self.assertRaises(TooLong, longer, rod(9, 9, A, B), "", 2)
        self.assertRaises(TooLong, longer, DEEP, "r", 4)
        # The other rod alone would become too long.
        self.assertEqual(longer(DEEP, "", 4), rod(8, 4, A, rod(1, 3, B, C)))

    def test_random_ones(self):
        chance = random.Random(62)
        for mobile in random_mobiles(62, 100, rods=5, longest=4):
            for way in rod_ways(mobile):
                before = at_way(mobile, way)
                many = chance.randint(1, 9 // max(before[1:3]))
                told = longer(mobile, way, many)
                self.assertEqual(at_way(told, way), rod(before[1] * many, before[2] * many, before[3], before[4]))
                others_stay(self, mobile, told, way)
                self.assertIs(alike(mobile, told), True)

    def test_no_number(self):
        for number, many in enumerate(WRONG_MANY):
            with self.subTest(number=number):
                self.assertRaises(NoNumber, longer, rod(1, 2, A, B), "", many)
                self.assertRaises(NoNumber, longer, DEEP, "r", many)
                # Ahead of TooLong: with these any number of more than 1 would be too much.
                self.assertRaises(NoNumber, longer, rod(9, 9, A, B), "", many)

    def test_no_way(self):
        for number, way in enumerate(WRONG_WAYS + ["l", "rl", "rr", "ll", "rll"]):
            with self.subTest(number=number):
                for many in [2, 9] + WRONG_MANY:
                    self.assertRaises(NoWay, longer, DEEP, way, many)
        self.assertRaises(NoWay, longer, A, "", 1)
        self.assertRaises(NoWay, longer, A, "", 10)

    def test_no_mobile_is_named_first(self):
        for number, thing in enumerate(WRONG_MOBILES):
            with self.subTest(number=number):
                for way in ("", "l", "x", None):
                    for many in (1, 9, 0, True, None):
                        self.assertRaises(NoMobile, longer, thing, way, many)


class Plain(unittest.TestCase):
    def test_a_common_divisor(self):
        self.assertEqual(plain(rod(2, 4, A, B)), rod(1, 2, A, B))
        self.assertEqual(plain(rod(9, 6, A, B)), rod(3, 2, A, B))
        self.assertEqual(plain(rod(9, 9, A, B)), rod(1, 1, A, B))

    def test_none(self):
        for mobile in (rod(1, 1, A, B), rod(8, 9, A, B), rod(1, 9, A, A), DEEP, TWICE):
            self.assertEqual(plain(mobile), mobile)

    def test_further_down(self):
        self.assertEqual(plain(rod(2, 3, rod(4, 6, A, B), C)), rod(2, 3, rod(2, 3, A, B), C))
        # Each rod by itself: what divides the arms of all need not be looked for.
        mobile = rod(2, 4, rod(3, 3, A, rod(8, 6, B, C)), rod(5, 7, C, rod(3, 9, D, A)))
        self.assertEqual(plain(mobile), rod(1, 2, rod(1, 1, A, rod(4, 3, B, C)), rod(5, 7, C, rod(1, 3, D, A))))

    def test_a_weight_alone(self):
        self.assertEqual(plain(A), A)
        self.assertEqual(plain(weight("zzz")), weight("zzz"))

    def test_five_deep(self):
        mobile = A
        for rods in range(5):
            mobile = rod(6, 3, mobile, B)
        told = plain(mobile)
        self.assertEqual([at_way(told, way)[1:3] for way in rod_ways(told)], [(2, 1)] * 5)

    def test_random_ones(self):
        for mobile in random_mobiles(63, 200, rods=5, longest=9):
            told = plain(mobile)
            self.assertEqual(plain(told), told)
            self.assertIs(alike(mobile, told), True)
            self.assertEqual(leaves(told), leaves(mobile))
            for way in rod_ways(mobile):
                before = at_way(mobile, way)
                after = at_way(told, way)
                self.assertEqual(gcd(after[1], after[2]), 1)
                self.assertEqual(before[1] * after[2], before[2] * after[1])

    def test_longer_ones(self):
        for mobile in random_mobiles(64, 100, rods=4, longest=3):
            told = plain(mobile)
            for way in rod_ways(mobile):
                self.assertEqual(plain(longer(mobile, way, 3)), told)

    def test_no_mobile(self):
        for number, thing in enumerate(WRONG_MOBILES):
            with self.subTest(number=number):
                self.assertRaises(NoMobile, plain, thing)


class Put(unittest.TestCase):
    def test_at_the_top(self):
        for mobile in (A, DEEP, chain(5)):
            for part in (A, B, TWICE, chain(5), left_chain(5)):
                self.assertEqual(put(mobile, "", part), part)

    def test_at_a_rod(self):
        self.assertEqual(put(DEEP, "r", D), rod(2, 1, A, D))
        self.assertEqual(put(DEEP, "r", rod(4, 5, D, D)), rod(2, 1, A, rod(4, 5, D, D)))
        self.assertEqual(put(TWICE, "l", rod(4, 5, D, C)), rod(1, 1, rod(4, 5, D, C), rod(1, 2, B, A)))

    def test_at_a_weight(self):
        self.assertEqual(put(DEEP, "l", D), rod(2, 1, D, rod(1, 3, B, C)))
        self.assertEqual(put(DEEP, "rl", DEEP), rod(2, 1, A, rod(1, 3, DEEP, C)))
        self.assertEqual(put(DEEP, "rr", rod(9, 9, A, A)), rod(2, 1, A, rod(1, 3, B, rod(9, 9, A, A))))

    def test_just_5_rods(self):
        for mobile in (chain(5), left_chain(5), DEEP):
            for way in leaf_ways(mobile) + rod_ways(mobile):
                told = put(mobile, way, left_chain(5 - len(way)))
                self.assertEqual(at_way(told, way), left_chain(5 - len(way)))
                self.assertEqual(len(leaves(told)), len(leaf_ways(told)))
        self.assertEqual(depth(put(DEEP, "rl", chain(3))), 5)

    def test_6_rods(self):
        for mobile in (chain(5), left_chain(5), DEEP, TWICE):
            for way in leaf_ways(mobile) + rod_ways(mobile):
                if way != "":
                    self.assertRaises(TooDeep, put, mobile, way, chain(6 - len(way)))
                    self.assertRaises(TooDeep, put, mobile, way, left_chain(5))
        self.assertRaises(TooDeep, put, rod(1, 1, A, B), "l", chain(5))
        self.assertRaises(TooDeep, put, chain(5), "rrrrr", rod(1, 1, A, B))

    def test_a_deep_part_taken_away(self):
        # What lay there was as deep as can be; what counts is what comes in its place.
        self.assertEqual(put(chain(5), "r", A), rod(1, 1, weight("f"), A))
        self.assertEqual(put(chain(5), "l", chain(4)), rod(1, 1, chain(4), chain(4)))

    def test_random_ones(self):
        parts = random_mobiles(65, 5, rods=3)
        for mobile in random_mobiles(66, 60, rods=5):
            for way in rod_ways(mobile) + leaf_ways(mobile):
                for part in parts:
                    if len(way) + depth(part) > 5:
                        self.assertRaises(TooDeep, put, mobile, way, part)
                        continue
                    told = put(mobile, way, part)
                    self.assertEqual(at_way(told, way), part)
                    others_stay(self, mobile, told, way)
                    self.assertEqual(put(told, way, at_way(mobile, way)), mobile)

    def test_nothing_is_there(self):
        for part in (A, DEEP, chain(5), None, chain(6)):
            for way in ("ll", "lr", "rll", "rlr", "rrl", "rrr", "lllll", "rrrrrr"):
                self.assertRaises(NoWay, put, DEEP, way, part)
            self.assertRaises(NoWay, put, A, "l", part)
            self.assertRaises(NoWay, put, A, "r", part)

    def test_what_is_no_way(self):
        for number, way in enumerate(WRONG_WAYS):
            with self.subTest(number=number):
                for part in (A, chain(5), None, [], chain(6), Strange()):
                    self.assertRaises(NoWay, put, DEEP, way, part)
                    self.assertRaises(NoWay, put, chain(5), way, part)
                    self.assertRaises(NoWay, put, A, way, part)

    def test_a_part_that_is_no_mobile(self):
        for number, thing in enumerate(WRONG_MOBILES):
            with self.subTest(number=number):
                for way in ("", "l", "r", "rl", "rr"):
                    self.assertRaises(NoMobile, put, DEEP, way, thing)

    def test_no_mobile_is_named_first(self):
        for number, thing in enumerate(WRONG_MOBILES):
            with self.subTest(number=number):
                for way in ("", "l", "llllll", "x", None):
                    for part in (A, chain(5), None):
                        self.assertRaises(NoMobile, put, thing, way, part)


class Hung(unittest.TestCase):
    def test_the_shortest_arms(self):
        self.assertEqual(hung(A, B, (("a", 1), ("b", 1))), rod(1, 1, A, B))
        self.assertEqual(hung(A, B, (("a", 2), ("b", 3))), rod(3, 2, A, B))
        self.assertEqual(hung(A, B, (("a", 4), ("b", 6))), rod(3, 2, A, B))
        self.assertEqual(hung(A, B, (("a", 999999), ("b", 999999))), rod(1, 1, A, B))
        self.assertEqual(hung(A, A, (("a", 7),)), rod(1, 1, A, A))

    def test_the_first_one_left(self):
        weights = (("a", 1), ("b", 3))
        self.assertEqual(hung(A, B, weights), rod(3, 1, A, B))
        self.assertEqual(hung(B, A, weights), rod(1, 3, B, A))

    def test_by_all_that_hangs_there(self):
        weights = (("a", 2), ("b", 3), ("c", 1))
        self.assertEqual(hung(DEEP, A, weights), rod(1, 3, DEEP, A))
        self.assertEqual(hung(B, DEEP, weights), rod(2, 1, B, DEEP))
        self.assertEqual(hung(DEEP, DEEP, weights), rod(1, 1, DEEP, DEEP))

    def test_where_those_do_not_hang_still(self):
        weights = (("a", 2), ("b", 3))
        self.assertEqual(hung(rod(1, 1, A, B), rod(9, 1, B, B), weights),
                         rod(6, 5, rod(1, 1, A, B), rod(9, 1, B, B)))
        self.assertIs(is_still(hung(rod(1, 1, A, B), B, weights), weights), False)
        self.assertEqual(hung(BARRED, A, weights), rod(2, 7, BARRED, A))

    def test_more_names(self):
        self.assertEqual(hung(A, C, (("a", 2), ("b", 5), ("c", 4), ("d", 999999))), rod(2, 1, A, C))

    def test_arms_of_9(self):
        self.assertEqual(hung(A, B, (("a", 1), ("b", 9))), rod(9, 1, A, B))
        self.assertEqual(hung(A, B, (("a", 9), ("b", 8))), rod(8, 9, A, B))
        self.assertEqual(hung(A, B, (("a", 111111), ("b", 999999))), rod(9, 1, A, B))

    def test_an_arm_longer_than_9(self):
        for numbers in ((1, 10), (10, 1), (9, 10), (10, 9), (11, 13), (1, 999999), (999999, 1), (999998, 999999)):
            self.assertRaises(TooLong, hung, A, B, (("a", numbers[0]), ("b", numbers[1])))
        self.assertRaises(TooLong, hung, A, rod(1, 1, B, C), (("a", 2), ("b", 15), ("c", 6)))

    def test_just_5_rods(self):
        weights = told_weights({name: 1 for name in "abcdefgh"})
        for one, other in ((chain(4), chain(4)), (chain(4), left_chain(3)), (left_chain(3), chain(4)),
                           (chain(4), A), (A, left_chain(4))):
            told = hung(one, other, weights)
            self.assertEqual(told[3:], (one, other))
            self.assertEqual(depth(told), 5)
            self.assertEqual(len(leaves(told)), len(leaf_ways(one)) + len(leaf_ways(other)))

    def test_6_rods(self):
        weights = told_weights({name: 1 for name in "abcdefgh"})
        for one, other in ((chain(5), A), (A, left_chain(5)), (chain(5), chain(5)), (chain(4), chain(5)),
                           (left_chain(5), chain(4))):
            self.assertRaises(TooDeep, hung, one, other, weights)

    def test_too_long_is_named_ahead_of_too_deep(self):
        weights = told_weights({"a": 100, "b": 1, "c": 1, "d": 1, "e": 1, "f": 1, "g": 1})
        self.assertRaises(TooLong, hung, chain(5), B, weights)
        self.assertRaises(TooLong, hung, B, chain(5), weights)

    def test_random_ones(self):
        chance = random.Random(67)
        seen = {True: 0, False: 0}
        for number in range(400):
            numbers = {name: chance.choice((1, 2, 3, 4, 6, 9, 12)) for name in "abcde"}
            one = fitting_mobile(chance, numbers, 3)
            other = fitting_mobile(chance, numbers, 3)
            weights = told_weights(numbers)
            left = weighs(one, numbers)
            right = weighs(other, numbers)
            fits = max(left, right) // gcd(left, right) <= 9
            seen[fits] += 1
            if not fits:
                self.assertRaises(TooLong, hung, one, other, weights)
                continue
            told = hung(one, other, weights)
            self.assertEqual(told[3:], (one, other))
            self.assertEqual(gcd(told[1], told[2]), 1)
            self.assertTrue(stays(told, numbers))
            self.assertIs(is_still(told, weights), True)
        self.assertGreater(min(seen.values()), 20)

    def test_no_weights(self):
        for number, thing in enumerate(WRONG_WEIGHTS):
            with self.subTest(number=number):
                self.assertRaises(NoWeights, hung, DEEP, A, thing)
                self.assertRaises(NoWeights, hung, A, DEEP, thing)
                # Ahead of TooDeep.
                self.assertRaises(NoWeights, hung, DEEP, chain(5), thing)

    def test_a_name_is_missing(self):
        weights = (("a", 1), ("b", 1), ("c", 1))
        for one, other in ((D, A), (A, D), (D, D), (rod(1, 1, A, D), B), (B, rod(1, 1, A, D))):
            self.assertIn("d", names_of(one) | names_of(other))
            self.assertRaises(NoWeights, hung, one, other, weights)
        self.assertRaises(NoWeights, hung, A, A, ())
        # Ahead of TooLong: a and b would be too unlike.
        self.assertRaises(NoWeights, hung, A, rod(1, 1, B, C), (("a", 1), ("b", 1000)))

    def test_no_mobile_is_named_first(self):
        for number, thing in enumerate(WRONG_MOBILES):
            with self.subTest(number=number):
                for weights in ((("a", 1), ("b", 1), ("c", 1)), (), None, [], (("a", 0),)):
                    self.assertRaises(NoMobile, hung, thing, A, weights)
                    self.assertRaises(NoMobile, hung, A, thing, weights)
                    self.assertRaises(NoMobile, hung, thing, thing, weights)

    def test_weights_of_odd_kinds(self):
        for thing in ODD_THINGS:
            self.assertRaises(NoWeights, hung, A, B, thing)


if __name__ == "__main__":
    unittest.main()
