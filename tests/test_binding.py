import random
import unittest
from itertools import product

from hangstill.binding import bound, spare
from hangstill.errors import Never, NoHall
from hangstill.halls import ring, together

from samples import (A, B, BARRED, C, D, DEEP, ODD_THINGS, TWICE, WRONG_MOBILES, can_hang, chain, fitting_halls,
                     fitting_mobile, groups_of, names_of, random_halls, rank, rod, rods_of, stays, weight)

E = weight("e")
# a is twice b, b is c, c is a: around, a would be half of itself.
THREE = (rod(1, 2, A, B), rod(1, 1, B, C), rod(1, 1, C, A))
# The same, but c is half of a.
AGREED = (rod(1, 2, A, B), rod(1, 1, B, C), rod(2, 1, C, A))


def all_names(hall):
    return sorted(set().union(*[names_of(mobile) for mobile in hall]))


def surely_bound(hall):
    return sorted([tuple(sorted(group)) for group in groups_of(hall)])


def surely_spare(hall):
    """By the rods alone: those of a spare mobile ask for nothing that those of the others do not."""
    told = []
    for place in range(len(hall)):
        others = [row for at, mobile in enumerate(hall) if at != place for row in rods_of(mobile)]
        if rank(others) == rank(others + rods_of(hall[place])):
            told.append(place)
    return told


def spare_by_numbers(hall, largest):
    """By all weights up to the largest one gone through."""
    names = all_names(hall)
    told = list(range(len(hall)))
    for numbers in product(range(1, largest + 1), repeat=len(names)):
        weights = dict(zip(names, numbers))
        tipping = [place for place, mobile in enumerate(hall) if not stays(mobile, weights)]
        if len(tipping) == 1 and tipping[0] in told:
            told.remove(tipping[0])
    return told


class WhatIsNoHall(unittest.TestCase):
    def asked(self, hall):
        self.assertRaises(NoHall, bound, hall)
        self.assertRaises(NoHall, spare, hall)

    def test_of_none_and_of_7(self):
        self.asked(())
        self.asked((A,) * 7)
        self.asked((A,) * 8)
        self.assertEqual(bound((A,) * 6), [("a",)])
        self.assertEqual(spare((A,) * 6), [0, 1, 2, 3, 4, 5])

    def test_no_tuple(self):
        for thing in ODD_THINGS + [[A, B], {A, B}, {A: B}, A, rod(1, 1, A, B)]:
            self.asked(thing)

    def test_something_that_is_no_mobile(self):
        for number, thing in enumerate(WRONG_MOBILES):
            with self.subTest(number=number):
                self.asked((thing,))
                self.asked((A, thing))
                self.asked((thing, A))

    def test_a_mobile_that_can_not_hang_still(self):
        self.asked((BARRED,))
        self.asked((A, BARRED))
        self.asked((rod(1, 2, A, A), A))
        self.asked((A, B, C, D, A, BARRED))

    def test_no_hall_is_named_ahead_of_never(self):
        self.asked(THREE + (BARRED,))
        self.asked(list(THREE))
        self.asked(THREE + (None,))
        self.asked(THREE * 3)
        self.asked((chain(6),) + THREE)


class Bound(unittest.TestCase):
    def test_of_one_mobile(self):
        self.assertEqual(bound((A,)), [("a",)])
        self.assertEqual(bound((DEEP,)), [("a", "b", "c")])
        self.assertEqual(bound((TWICE,)), [("a", "b")])
        self.assertEqual(bound((rod(1, 1, C, rod(1, 1, B, A)),)), [("a", "b", "c")])

    def test_without_a_common_name(self):
        self.assertEqual(bound((rod(1, 1, A, B), rod(1, 1, C, D))), [("a", "b"), ("c", "d")])
        self.assertEqual(bound((C, A, B)), [("a",), ("b",), ("c",)])
        # The groups lie across one another in the order of names.
        self.assertEqual(bound((rod(1, 1, D, B), rod(1, 1, C, A))), [("a", "c"), ("b", "d")])

    def test_with_a_common_name(self):
        self.assertEqual(bound((rod(1, 1, A, B), rod(1, 1, C, B))), [("a", "b", "c")])
        self.assertEqual(bound((rod(1, 1, A, B), rod(1, 1, C, D), A)), [("a", "b"), ("c", "d")])

    def test_only_through_a_third_mobile(self):
        hall = (rod(1, 1, A, B), rod(1, 1, C, D))
        self.assertEqual(bound(hall + (rod(1, 1, D, B),)), [("a", "b", "c", "d")])
        self.assertEqual(bound((rod(1, 1, D, B),) + hall), [("a", "b", "c", "d")])
        self.assertEqual(bound((hall[0], rod(1, 1, E, E), hall[1], rod(1, 1, D, B))), [("a", "b", "c", "d"), ("e",)])
        names = [weight(name) for name in "gabfced"]
        links = tuple([rod(1, 1, one, other) for one, other in zip(names, names[1:])])
        for at in range(6):
            self.assertEqual(bound(links[at:] + links[:at]), [tuple("abcdefg")])
        self.assertEqual(bound(links[:2] + links[3:]), [("a", "b", "g"), ("c", "d", "e", "f")])

    def test_names_of_several_letters(self):
        hall = (rod(1, 1, weight("b"), weight("ab")), rod(1, 1, weight("aab"), weight("aa")), weight("a"))
        self.assertEqual(bound(hall), [("a",), ("aa", "aab"), ("ab", "b")])

    def test_where_they_can_not_hang_still_together(self):
        self.assertIsNotNone(ring(THREE))
        self.assertEqual(bound(THREE), [("a", "b", "c")])
        self.assertEqual(bound(THREE + (rod(1, 1, D, E), rod(1, 2, D, E))), [("a", "b", "c"), ("d", "e")])

    def test_kinds(self):
        told = bound((rod(1, 1, C, D), rod(1, 1, A, B)))
        self.assertIsInstance(told, list)
        for names in told:
            self.assertIsInstance(names, tuple)
        self.assertIsNot(bound(THREE), bound(THREE))

    def test_random_halls(self):
        seen = {}
        for names in ("abcd", "abcdefgh", "abcdefghijklmnopqrstuvwxyz"):
            for hall in random_halls(f"91 {names}", 200, names):
                told = bound(hall)
                self.assertEqual(told, surely_bound(hall))
                self.assertEqual(sorted(sum(told, ())), all_names(hall))
                seen[len(told)] = True
        self.assertTrue(set(seen) >= {1, 2, 3, 4, 5})


class Spare(unittest.TestCase):
    def test_the_same_mobile_twice(self):
        self.assertEqual(spare((DEEP, DEEP)), [0, 1])
        self.assertEqual(spare((DEEP, rod(1, 1, D, E), DEEP)), [0, 2])
        self.assertEqual(spare((DEEP,) * 3), [0, 1, 2])

    def test_alike_mobiles(self):
        self.assertEqual(spare((rod(1, 2, A, B), rod(4, 2, B, A))), [0, 1])
        self.assertEqual(spare((rod(1, 2, A, B), rod(1, 1, rod(1, 2, A, B), rod(2, 1, B, A)))), [0, 1])

    def test_a_mobile_of_one_name_alone(self):
        self.assertEqual(spare((A,)), [0])
        self.assertEqual(spare((rod(1, 1, A, A),)), [0])
        self.assertEqual(spare((A, B)), [0, 1])
        # Where no other has this name, and where some have.
        self.assertEqual(spare((rod(1, 1, A, B), C)), [1])
        self.assertEqual(spare((rod(1, 1, A, B), B, rod(3, 3, A, A))), [1, 2])

    def test_a_hall_of_one_mobile(self):
        self.assertEqual(spare((DEEP,)), [])
        self.assertEqual(spare((rod(1, 1, A, B),)), [])
        self.assertEqual(spare((TWICE,)), [])
        self.assertEqual(spare((weight("zzz"),)), [0])

    def test_a_ring_of_mobiles_that_agree(self):
        self.assertEqual(spare(AGREED), [0, 1, 2])
        self.assertEqual(spare(AGREED[:2]), [])
        self.assertEqual(spare(AGREED[1:]), [])
        self.assertEqual(spare(AGREED + (rod(1, 1, A, D),)), [0, 1, 2])
        names = [weight(name) for name in "abcdef"]
        around = tuple([rod(1, 1, one, other) for one, other in zip(names, names[1:] + names[:1])])
        self.assertEqual(spare(around), [0, 1, 2, 3, 4, 5])
        self.assertEqual(spare(around[:5]), [])

    def test_names_bound_by_the_others_only_in_part(self):
        # The second one binds b and c, but nothing binds a to these.
        self.assertEqual(spare((DEEP, rod(1, 3, B, C))), [1])
        self.assertEqual(spare((rod(1, 3, B, C), DEEP)), [0])
        # Two groups of the others, each of several names of it.
        four = rod(1, 1, rod(1, 1, A, B), rod(1, 1, C, D))
        self.assertEqual(spare((four, rod(1, 1, A, B), rod(1, 1, C, D))), [1, 2])
        self.assertEqual(spare((four, rod(1, 1, A, B), rod(1, 1, C, D), rod(1, 1, B, C))), [0, 1, 2, 3])
        # A name that is in no other one, the first or the last of its names.
        self.assertEqual(spare((rod(1, 1, A, rod(1, 1, B, C)), rod(1, 1, B, C))), [1])
        self.assertEqual(spare((rod(1, 1, C, rod(1, 1, B, A)), rod(1, 1, B, A))), [1])

    def test_through_names_that_it_does_not_have(self):
        hall = (rod(1, 1, A, B), rod(1, 1, A, C), rod(1, 1, C, D), rod(1, 1, D, B))
        self.assertEqual(spare(hall), [0, 1, 2, 3])
        self.assertEqual(spare(hall[:3]), [])

    def test_no_common_name(self):
        self.assertEqual(spare((rod(1, 1, A, B), rod(1, 1, C, D))), [])

    def test_never(self):
        self.assertRaises(Never, spare, THREE)
        self.assertRaises(Never, spare, (rod(1, 1, A, B), rod(1, 2, A, B)))
        self.assertRaises(Never, spare, (A, rod(1, 1, A, B), C, rod(1, 2, A, B)))
        self.assertRaises(Never, spare, (DEEP, rod(1, 1, D, E), rod(1, 2, D, E)))

    def test_where_weights_would_be_beyond_999999(self):
        # Each next name weighs 81/10 of the one ahead of it.
        hall = tuple([rod(9, 1, weight(one), rod(1, 9, weight(other), weight("z" + one)))
                      for one, other in zip("abcde", "bcdef")])
        self.assertGreater(max(dict(together(hall)).values()), 999999)
        self.assertEqual(spare(hall), [])
        self.assertEqual(spare(hall + hall[:1]), [0, 5])

    def test_kinds(self):
        self.assertIsInstance(spare(AGREED), list)
        self.assertIsNot(spare(AGREED), spare(AGREED))
        for place in spare(AGREED):
            self.assertIs(type(place), int)

    def test_random_halls(self):
        seen = {True: 0, False: 0}
        for names in ("abc", "abcdef", "abcdefghij"):
            for hall in random_halls(f"92 {names}", 200, names):
                seen[can_hang(hall)] += 1
                if can_hang(hall):
                    self.assertEqual(spare(hall), surely_spare(hall))
                else:
                    self.assertRaises(Never, spare, hall)
        self.assertGreater(min(seen.values()), 50)

    def test_fitting_halls(self):
        seen = {True: 0, False: 0}
        for hall, numbers in fitting_halls(93, 300):
            told = spare(hall)
            self.assertEqual(told, surely_spare(hall))
            for place in range(len(hall)):
                seen[place in told] += 1
        self.assertGreater(min(seen.values()), 100)

    def test_all_small_weights(self):
        chance = random.Random(94)
        for number in range(60):
            numbers = {name: chance.choice((1, 2)) for name in "abcd"}
            hall = tuple([fitting_mobile(chance, numbers, 2) for place in range(chance.randint(1, 5))])
            # Up to 4 each group has its weights twice, so what it does not bind can be set apart.
            self.assertEqual(spare(hall), spare_by_numbers(hall, 4))


if __name__ == "__main__":
    unittest.main()
