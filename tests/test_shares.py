import unittest
from fractions import Fraction
from math import gcd

from hangstill.errors import Never, NoMobile
from hangstill.mobiles import is_still, leaves
from hangstill.shares import alike, bar, least, shares

from samples import (A, B, BARRED, C, D, DEEP, TWICE, WRONG_MOBILES, can_hang, chain, names_of, random_mobiles, rank,
                     rod, rods_of, stays, weight)

# Its least whole weights come to more than 999999 in all.
HEAVY = rod(9, 8, A, rod(9, 8, B, rod(9, 8, C, rod(9, 8, D, rod(9, 8, weight("e"), weight("f"))))))
# Of this one each is beyond 999999 by itself.
HEAVIER = rod(1, 1, rod(9, 8, A, rod(9, 8, B, rod(9, 8, C, D))),
              rod(7, 6, weight("e"), rod(7, 6, weight("f"), rod(7, 6, weight("g"), weight("h")))))


class Shares(unittest.TestCase):
    def test_a_weight_alone(self):
        self.assertEqual(shares(A), [("", "a", (1, 1))])

    def test_a_rod(self):
        self.assertEqual(shares(rod(1, 2, A, B)), [("l", "a", (2, 3)), ("r", "b", (1, 3))])
        self.assertEqual(shares(rod(9, 1, A, B)), [("l", "a", (1, 10)), ("r", "b", (9, 10))])

    def test_as_small_as_can_be(self):
        self.assertEqual(shares(rod(2, 4, A, B)), [("l", "a", (2, 3)), ("r", "b", (1, 3))])
        self.assertEqual(shares(rod(9, 9, A, B)), [("l", "a", (1, 2)), ("r", "b", (1, 2))])
        told = [("l", "a", (1, 3)), ("rl", "b", (1, 2)), ("rr", "c", (1, 6))]
        self.assertEqual(shares(DEEP), told)

    def test_the_same_name_with_one_share(self):
        told = [("ll", "a", (1, 6)), ("lr", "b", (1, 3)), ("rl", "b", (1, 3)), ("rr", "a", (1, 6))]
        self.assertEqual(shares(TWICE), told)

    def test_the_same_name_with_several(self):
        self.assertEqual(shares(BARRED), [("l", "a", (2, 3)), ("rl", "a", (1, 6)), ("rr", "b", (1, 6))])

    def test_beyond_six_digits(self):
        told = shares(HEAVY)
        self.assertEqual(told[0], ("l", "a", (8, 17)))
        self.assertEqual(told[-1], ("rrrrr", "f", (9 ** 5, 17 ** 5)))

    def test_random_ones(self):
        for mobile in random_mobiles(11, 200, rods=5, longest=9):
            told = shares(mobile)
            self.assertEqual([(way, name) for way, name, share in told], leaves(mobile))
            self.assertEqual(sum(Fraction(*share) for way, name, share in told), 1)
            for way, name, share in told:
                self.assertIsInstance(share, tuple)
                self.assertEqual(gcd(*share), 1)
            self.assertTrue(stays(by_ways(mobile, ""), {way: Fraction(*share) for way, name, share in told}))


def by_ways(mobile, way):
    """The mobile with a weight of its own at each leaf, called by its way."""
    if mobile[0] == "weight":
        return ("weight", way)
    return mobile[:3] + (by_ways(mobile[3], way + "l"), by_ways(mobile[4], way + "r"))


class Bars(unittest.TestCase):
    def test_none(self):
        for mobile in (A, rod(1, 2, A, B), DEEP, TWICE, rod(3, 3, A, A), HEAVY):
            self.assertIsNone(bar(mobile))

    def test_two_leaves(self):
        self.assertEqual(bar(rod(1, 2, A, A)), ("l", "r"))
        self.assertEqual(bar(BARRED), ("l", "rl"))

    def test_the_first_in_order_that_bars(self):
        # b bars at "lrr", ahead of a at "r", though a came ahead of b.
        mobile = rod(1, 1, rod(1, 1, A, rod(1, 2, B, B)), A)
        self.assertEqual(bar(mobile), ("lrl", "lrr"))

    def test_the_first_leaf_of_the_name(self):
        # The second a has the share of the first one, the third one has not.
        mobile = rod(1, 1, rod(1, 1, A, A), rod(1, 2, A, B))
        self.assertEqual(bar(mobile), ("ll", "rl"))
        mobile = rod(1, 1, rod(1, 1, C, A), rod(1, 1, A, rod(1, 1, A, C)))
        self.assertEqual(bar(mobile), ("lr", "rrl"))

    def test_just_if_it_can_not_hang_still(self):
        mobiles = random_mobiles(12, 400, names="ab", rods=3, longest=2)
        self.assertEqual({bar(mobile) is None for mobile in mobiles}, {True, False})
        for mobile in mobiles:
            self.assertEqual(bar(mobile) is None, can_hang((mobile,)))
            self.assertEqual(bar(mobile), first_bar(shares(mobile)))


def first_bar(told):
    for at, (way, name, share) in enumerate(told):
        first = [leaf for leaf in told[:at + 1] if leaf[1] == name][0]
        if first[2] != share:
            return (first[0], way)
    return None


class Least(unittest.TestCase):
    def test_a_weight_alone(self):
        self.assertEqual(least(A), (("a", 1),))

    def test_one_name_several_times(self):
        self.assertEqual(least(rod(3, 3, A, A)), (("a", 1),))
        self.assertEqual(least(rod(1, 2, rod(1, 1, A, A), A)), (("a", 1),))

    def test_rods(self):
        self.assertEqual(least(rod(1, 2, A, B)), (("a", 2), ("b", 1)))
        self.assertEqual(least(rod(2, 4, A, B)), (("a", 2), ("b", 1)))
        self.assertEqual(least(DEEP), (("a", 2), ("b", 3), ("c", 1)))
        self.assertEqual(least(TWICE), (("a", 1), ("b", 2)))

    def test_names_rise(self):
        mobile = rod(2, 1, weight("ba"), rod(1, 3, weight("b"), weight("aab")))
        self.assertEqual(least(mobile), (("aab", 1), ("b", 3), ("ba", 2)))

    def test_beyond_999999(self):
        told = least(HEAVY)
        numbers = dict(told)
        self.assertEqual([name for name, number in told], list("abcdef"))
        self.assertEqual(numbers["a"], 8 * 17 ** 4)
        self.assertEqual(numbers["f"], 9 ** 5)
        self.assertEqual(sum(numbers.values()), 17 ** 5)
        told = (("a", 8 * 17 ** 2 * 13 ** 3), ("b", 9 * 8 * 17 * 13 ** 3), ("c", 81 * 8 * 13 ** 3),
                ("d", 729 * 13 ** 3), ("e", 6 * 13 ** 2 * 17 ** 3), ("f", 7 * 6 * 13 * 17 ** 3),
                ("g", 49 * 6 * 17 ** 3), ("h", 343 * 17 ** 3))
        self.assertEqual(least(HEAVIER), told)
        self.assertGreater(min(number for name, number in told), 999999)

    def test_never(self):
        for mobile in (BARRED, rod(1, 2, A, A)):
            self.assertRaises(Never, least, mobile)

    def test_random_ones(self):
        for mobile in random_mobiles(13, 400, names="abcdefghij", rods=4):
            if bar(mobile) is not None:
                self.assertRaises(Never, least, mobile)
                continue
            told = least(mobile)
            self.assertIsInstance(told, tuple)
            self.assertEqual([name for name, number in told], sorted(names_of(mobile)))
            self.assertEqual(gcd(*[number for name, number in told]), 1)
            self.assertTrue(stays(mobile, dict(told)))
            if max(dict(told).values()) <= 999999:
                self.assertTrue(is_still(mobile, told))


class Alike(unittest.TestCase):
    def test_by_the_same_weights(self):
        self.assertIs(alike(rod(1, 2, A, B), rod(2, 1, B, A)), True)
        self.assertIs(alike(rod(1, 2, A, B), rod(2, 4, A, B)), True)
        self.assertIs(alike(rod(2, 1, A, B), TWICE), True)
        self.assertIs(alike(DEEP, DEEP), True)
        self.assertIs(alike(HEAVY, HEAVY), True)

    def test_by_other_weights(self):
        self.assertIs(alike(rod(1, 2, A, B), rod(1, 3, A, B)), False)
        self.assertIs(alike(rod(1, 2, A, B), rod(1, 2, B, A)), False)

    def test_of_one_name_each(self):
        self.assertIs(alike(A, A), True)
        self.assertIs(alike(A, B), True)
        self.assertIs(alike(rod(2, 2, A, A), B), True)
        self.assertIs(alike(rod(2, 2, A, A), rod(1, 2, rod(1, 1, C, C), C)), True)

    def test_of_one_name_and_of_several(self):
        self.assertIs(alike(A, rod(1, 1, A, B)), False)
        self.assertIs(alike(rod(1, 1, A, B), A), False)
        self.assertIs(alike(rod(1, 1, A, B), C), False)

    def test_neither_can(self):
        self.assertIs(alike(BARRED, rod(1, 2, A, A)), True)
        self.assertIs(alike(rod(1, 2, C, C), rod(1, 2, A, A)), True)
        self.assertIs(alike(BARRED, BARRED), True)

    def test_one_can(self):
        self.assertIs(alike(BARRED, rod(1, 2, A, B)), False)
        self.assertIs(alike(rod(1, 2, A, B), BARRED), False)
        self.assertIs(alike(rod(1, 1, A, A), rod(1, 2, A, A)), False)
        self.assertIs(alike(rod(1, 2, A, A), A), False)

    def test_unlike_names(self):
        self.assertIs(alike(rod(1, 1, A, B), rod(1, 1, A, C)), False)
        self.assertIs(alike(rod(1, 1, A, B), rod(1, 1, C, D)), False)
        self.assertIs(alike(rod(1, 1, A, B), rod(1, 2, rod(1, 1, A, B), C)), False)

    def test_random_ones(self):
        # Those that can hang still are alike just if the rods of both tell no more than those of each.
        mobiles = random_mobiles(14, 60, names="ab", rods=2, longest=2)
        seen = {True: 0, False: 0}
        for one in mobiles:
            for other in mobiles:
                said = alike(one, other)
                seen[said] += 1
                if can_hang((one,)) and can_hang((other,)):
                    ranks = [rank(rods_of(one)), rank(rods_of(other)), rank(rods_of(one) + rods_of(other))]
                    self.assertEqual(said, len(set(ranks)) == 1)
                else:
                    self.assertEqual(said, can_hang((one,)) == can_hang((other,)))
        self.assertTrue(seen[True] and seen[False])


class NoMobiles(unittest.TestCase):
    def test_refused(self):
        for number, thing in enumerate(WRONG_MOBILES):
            with self.subTest(number=number):
                self.assertRaises(NoMobile, shares, thing)
                self.assertRaises(NoMobile, bar, thing)
                self.assertRaises(NoMobile, least, thing)
                for mobile in (A, BARRED, DEEP, thing):
                    self.assertRaises(NoMobile, alike, thing, mobile)
                    self.assertRaises(NoMobile, alike, mobile, thing)

    def test_depth(self):
        self.assertEqual(shares(chain(5))[-1], ("rrrrr", "a", (1, 32)))
        self.assertIsNone(bar(chain(5)))
        self.assertEqual(least(chain(5))[0], ("a", 1))
        self.assertIs(alike(chain(5), chain(5)), True)


if __name__ == "__main__":
    unittest.main()
