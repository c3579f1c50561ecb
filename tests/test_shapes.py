import unittest

from hangstill.deeds import turned
from hangstill.errors import NoMobile
from hangstill.shapes import how_many_turned, least_turned, same_shape

from samples import (A, B, BARRED, C, D, DEEP, TWICE, WRONG_MOBILES, chain, left_chain, random_mobiles, rod, rod_ways,
                     weight)


def all_turned(mobile):
    """All that come by turning rods, one after another, until nothing new comes."""
    told = {mobile}
    new = [mobile]
    while new:
        here = new.pop()
        for other in turned_once(here):
            if other not in told:
                told.add(other)
                new.append(other)
    return told


def turned_once(mobile):
    if mobile[0] == "weight":
        return []
    sign, left, right, one, other = mobile
    told = [(sign, right, left, other, one)]
    told += [(sign, left, right, part, other) for part in turned_once(one)]
    return told + [(sign, left, right, one, part) for part in turned_once(other)]


def full(rods, names):
    if rods == 0:
        return weight(next(names))
    one = full(rods - 1, names)
    return rod(1, 2, one, full(rods - 1, names))


SAMPLES = [mobile for mobile in random_mobiles(71, 200, names="ab", rods=3, longest=2) if len(rod_ways(mobile)) <= 6]


class LeastTurned(unittest.TestCase):
    def test_a_weight_alone(self):
        self.assertEqual(least_turned(A), A)
        self.assertEqual(least_turned(weight("zzz")), weight("zzz"))

    def test_one_rod(self):
        self.assertEqual(least_turned(rod(1, 2, B, A)), rod(1, 2, B, A))
        self.assertEqual(least_turned(rod(2, 1, A, B)), rod(1, 2, B, A))
        self.assertEqual(least_turned(rod(3, 3, B, A)), rod(3, 3, A, B))
        self.assertEqual(least_turned(rod(3, 3, A, A)), rod(3, 3, A, A))
        self.assertEqual(least_turned(rod(1, 1, weight("aa"), A)), rod(1, 1, A, weight("aa")))

    def test_rods_within_rods(self):
        self.assertEqual(least_turned(DEEP), rod(1, 2, rod(1, 3, B, C), A))
        self.assertEqual(least_turned(rod(1, 2, A, rod(3, 1, B, C))), rod(1, 2, A, rod(1, 3, C, B)))
        # A rod comes ahead of a weight, as its text does.
        self.assertEqual(least_turned(rod(1, 1, A, rod(1, 1, B, B))), rod(1, 1, rod(1, 1, B, B), A))
        # By what the sides become: as they were, the other one came first.
        mobile = rod(5, 5, rod(2, 3, A, B), rod(4, 1, A, B))
        self.assertEqual(least_turned(mobile), rod(5, 5, rod(1, 4, B, A), rod(2, 3, A, B)))

    def test_against_all_that_come_by_turning(self):
        for mobile in SAMPLES + [DEEP, TWICE, BARRED, chain(5), left_chain(5), full(3, iter("dbcaabdc"))]:
            told = all_turned(mobile)
            self.assertEqual(least_turned(mobile), min(told))
            for other in sorted(told)[:20]:
                self.assertEqual(least_turned(other), min(told))

    def test_the_largest(self):
        names = [one + other for one in "dcba" for other in "abcdefgh"]
        mobile = full(5, iter(names))
        told = least_turned(mobile)
        for way in rod_ways(told):
            self.assertLess(told, turned(told, way))
        self.assertEqual(how_many_turned(mobile), 2 ** 31)

    def test_no_mobile(self):
        for number, thing in enumerate(WRONG_MOBILES):
            with self.subTest(number=number):
                self.assertRaises(NoMobile, least_turned, thing)


class HowManyTurned(unittest.TestCase):
    def test_a_weight_alone(self):
        self.assertEqual(how_many_turned(A), 1)

    def test_unlike_arms(self):
        self.assertEqual(how_many_turned(rod(1, 2, A, B)), 2)
        self.assertEqual(how_many_turned(rod(1, 2, A, A)), 2)
        self.assertEqual(how_many_turned(DEEP), 4)

    def test_like_arms_and_unlike_sides(self):
        self.assertEqual(how_many_turned(rod(3, 3, A, B)), 2)
        self.assertEqual(how_many_turned(rod(3, 3, rod(1, 1, A, A), A)), 2)
        self.assertEqual(how_many_turned(rod(1, 1, rod(1, 2, A, B), rod(1, 2, B, A))), 8)

    def test_like_arms_and_sides_of_one_shape_that_are_not_the_same(self):
        self.assertEqual(how_many_turned(rod(1, 1, rod(1, 2, A, B), rod(2, 1, B, A))), 4)
        self.assertEqual(how_many_turned(TWICE), 4)
        self.assertEqual(how_many_turned(rod(2, 2, rod(1, 1, A, B), rod(1, 1, B, A))), 4)

    def test_like_arms_and_the_same_sides(self):
        self.assertEqual(how_many_turned(rod(3, 3, A, A)), 1)
        self.assertEqual(how_many_turned(rod(1, 1, rod(1, 2, A, B), rod(1, 2, A, B))), 4)
        self.assertEqual(how_many_turned(rod(1, 1, rod(2, 2, A, A), rod(2, 2, A, A))), 1)

    def test_unlike_arms_and_the_same_sides(self):
        self.assertEqual(how_many_turned(rod(1, 2, rod(1, 2, A, B), rod(1, 2, A, B))), 8)

    def test_against_all_that_come_by_turning(self):
        seen = set()
        for mobile in SAMPLES + [DEEP, TWICE, BARRED, chain(5), left_chain(5), full(3, iter("abababab"))]:
            told = how_many_turned(mobile)
            self.assertEqual(told, len(all_turned(mobile)))
            seen.add(told)
        self.assertGreater(len(seen), 4)

    def test_no_mobile(self):
        for number, thing in enumerate(WRONG_MOBILES):
            with self.subTest(number=number):
                self.assertRaises(NoMobile, how_many_turned, thing)


class SameShape(unittest.TestCase):
    def both_ways(self, one, other, said):
        self.assertIs(same_shape(one, other), said)
        self.assertIs(same_shape(other, one), said)

    def test_they_are(self):
        self.both_ways(A, A, True)
        self.both_ways(rod(1, 2, A, B), rod(2, 1, B, A), True)
        self.both_ways(DEEP, rod(1, 2, rod(3, 1, C, B), A), True)
        self.both_ways(DEEP, rod(2, 1, A, rod(3, 1, C, B)), True)
        self.both_ways(DEEP, DEEP, True)
        self.both_ways(rod(3, 3, A, B), rod(3, 3, B, A), True)

    def test_they_differ_in_a_name(self):
        self.both_ways(A, B, False)
        self.both_ways(rod(1, 2, A, B), rod(1, 2, A, C), False)
        self.both_ways(DEEP, rod(2, 1, A, rod(1, 3, B, D)), False)

    def test_they_differ_in_an_arm(self):
        self.both_ways(rod(1, 2, A, B), rod(1, 3, A, B), False)
        # Alike, but not by turning.
        self.both_ways(rod(1, 2, A, B), rod(2, 4, A, B), False)
        self.both_ways(DEEP, rod(2, 1, A, rod(1, 4, B, C)), False)

    def test_they_differ_in_what_hangs_where(self):
        self.both_ways(rod(1, 2, A, B), rod(1, 2, B, A), False)
        self.both_ways(rod(1, 2, A, B), rod(2, 1, A, B), False)
        self.both_ways(rod(1, 1, rod(1, 1, A, B), C), rod(1, 1, rod(1, 1, A, C), B), False)
        self.both_ways(rod(1, 1, rod(1, 1, A, B), rod(1, 1, C, D)), rod(1, 1, rod(1, 1, A, C), rod(1, 1, B, D)), False)

    def test_they_differ_in_rods(self):
        self.both_ways(A, rod(1, 1, A, A), False)
        self.both_ways(chain(5), chain(4), False)

    def test_chains(self):
        self.both_ways(chain(5), left_chain(5), True)

    def test_against_all_that_come_by_turning(self):
        seen = {True: 0, False: 0}
        mobiles = random_mobiles(72, 60, names="ab", rods=2, longest=2)
        for one in mobiles:
            told = all_turned(one)
            for other in mobiles:
                said = same_shape(one, other)
                seen[said] += 1
                self.assertIs(said, other in told)
        self.assertGreater(min(seen.values()), 60)

    def test_turned_ones(self):
        for mobile in SAMPLES:
            for way in rod_ways(mobile):
                self.both_ways(mobile, turned(mobile, way), True)

    def test_no_mobile_of_either(self):
        for number, thing in enumerate(WRONG_MOBILES):
            with self.subTest(number=number):
                for mobile in (A, DEEP, thing):
                    self.assertRaises(NoMobile, same_shape, thing, mobile)
                    self.assertRaises(NoMobile, same_shape, mobile, thing)


if __name__ == "__main__":
    unittest.main()
