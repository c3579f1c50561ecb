import random
import unittest
from fractions import Fraction
from itertools import product
from math import gcd

from hangstill.errors import Never, NoHall, NoWeights
from hangstill.halls import is_ring, ring, settled, together
from hangstill.mobiles import leaves
from hangstill.shares import shares

from samples import (A, ANY, B, BARRED, C, D, DEEP, ODD_THINGS, Strange, WRONG_MOBILES, WRONG_WEIGHTS, can_hang, chain,
                     fitting_halls, groups_of, names_of, random_halls, rod, stays, weight)

# a is twice b, b is c, c is a: around, a would be half of itself.
THREE = (rod(1, 2, A, B), rod(1, 1, B, C), rod(1, 1, C, A))
AROUND = [(0, "a", "b"), (1, "b", "c"), (2, "c", "a")]
# The same, but c is half of a.
STILL = (rod(1, 2, A, B), rod(1, 1, B, C), rod(2, 1, C, A))
# Two groups: a, b, c and d, e.
GROUPS = (rod(1, 2, A, B), rod(1, 3, B, C), rod(3, 2, D, weight("e")))
# By the first mobile a is to b as 2 to 3, led through the others as 4 to 1.
THROUGH = (DEEP, rod(1, 2, A, D), rod(1, 2, D, weight("e")), rod(1, 1, weight("e"), B))


def told_shares(hall):
    return [{name: Fraction(*share) for way, name, share in shares(mobile)} for mobile in hall]


def surely_ring(hall, steps):
    """By the document's words, of a list of things that look like steps."""
    tables = told_shares(hall)
    ratio = Fraction(1)
    for at, (place, one, other) in enumerate(steps):
        if place not in range(len(hall)) or one not in tables[place] or other not in tables[place]:
            return False
        if at > 0 and steps[at - 1][2] != one:
            return False
        ratio *= tables[place][other] / tables[place][one]
    return len(steps) > 0 and steps[-1][2] == steps[0][1] and ratio != 1


class WhatHallsAre(unittest.TestCase):
    def asked(self, hall):
        self.assertRaises(NoHall, ring, hall)
        self.assertRaises(NoHall, is_ring, hall, AROUND)
        self.assertRaises(NoHall, is_ring, hall, None)
        self.assertRaises(NoHall, together, hall)
        self.assertRaises(NoHall, settled, hall, (("a", 1),))
        self.assertRaises(NoHall, settled, hall, ())

    def test_of_1_to_6_mobiles(self):
        for many in range(1, 7):
            hall = (rod(1, 2, A, B),) * many
            self.assertIsNone(ring(hall))
            self.assertIs(is_ring(hall, []), False)
            self.assertEqual(together(hall), (("a", 2), ("b", 1)))
            self.assertEqual(settled(hall, ()), [])

    def test_of_none_and_of_7(self):
        self.asked(())
        self.asked((A,) * 7)
        self.asked((A,) * 8)

    def test_no_tuple(self):
        for thing in ODD_THINGS:
            self.asked(thing)
        self.asked([A, B])
        self.asked({A, B})
        self.asked({A: B})
        self.asked(A)
        self.asked(rod(1, 1, A, B))

    def test_something_that_is_no_mobile(self):
        for number, thing in enumerate(WRONG_MOBILES):
            with self.subTest(number=number):
                self.asked((thing,))
                self.asked((A, thing))
                self.asked((thing, A))
                self.asked((A, B, C, D, A, thing))

    def test_a_mobile_that_can_not_hang_still(self):
        self.asked((BARRED,))
        self.asked((A, BARRED))
        self.asked((rod(1, 2, A, A), A))
        self.asked((A, B, C, D, A, BARRED))

    def test_deep_mobiles(self):
        self.assertEqual(together((chain(5),))[0], ("a", 1))
        self.asked((chain(6),))


class Rings(unittest.TestCase):
    def test_there_is_one(self):
        halls = [THREE, THROUGH, (rod(1, 2, A, B), rod(1, 1, A, B)), (A, C, rod(1, 1, A, B), rod(2, 1, A, B)),
                 (rod(1, 1, A, B), rod(1, 1, B, C), DEEP), GROUPS + (rod(1, 1, D, weight("e")),)]
        for hall in halls:
            told = ring(hall)
            self.assertIsInstance(told, list)
            self.assertTrue(surely_ring(hall, told))
            self.assertIs(is_ring(hall, told), True)
            self.assertRaises(Never, together, hall)

    def test_there_is_none(self):
        for hall in [STILL, GROUPS, (A,), (A, A), (DEEP,), (DEEP, rod(4, 2, C, A)), (rod(2, 4, A, B), rod(1, 2, A, B)),
                     (A, B, C)]:
            self.assertIsNone(ring(hall))

    def test_random_halls(self):
        seen = {True: 0, False: 0}
        for hall in random_halls(21, 300, "abcd") + random_halls(22, 300, "abcdefgh"):
            told = ring(hall)
            seen[told is None] += 1
            self.assertEqual(told is None, can_hang(hall))
            if told is not None:
                self.assertTrue(surely_ring(hall, told))
                self.assertIs(is_ring(hall, told), True)
        self.assertGreater(min(seen.values()), 50)

    def test_fitting_halls(self):
        for hall, numbers in fitting_halls(23, 200):
            self.assertIsNone(ring(hall))

    def test_the_largest_halls(self):
        names = [one + other for one in "abcdefgh" for other in "abcdefghijklmnopqrstuvwxyz"]
        hall = tuple([full(names[place * 31:place * 31 + 32]) for place in range(6)])
        self.assertEqual(together(hall[:1] * 6), together(hall[:1]))
        self.assertEqual(ring(hall) is None, can_hang(hall))


def full(names):
    """Five rods deep everywhere."""
    if len(names) == 1:
        return weight(names[0])
    half = len(names) // 2
    return rod(half % 7 + 1, 9, full(names[:half]), full(names[half:]))


class IsRing(unittest.TestCase):
    def test_a_ring(self):
        self.assertIs(is_ring(THREE, AROUND), True)

    def test_from_any_name_on(self):
        self.assertIs(is_ring(THREE, AROUND[1:] + AROUND[:1]), True)
        self.assertIs(is_ring(THREE, AROUND[2:] + AROUND[:2]), True)

    def test_turned(self):
        turned = [(2, "a", "c"), (1, "c", "b"), (0, "b", "a")]
        self.assertIs(is_ring(THREE, turned), True)
        self.assertIs(is_ring(THREE, AROUND[::-1]), False)
        for at, (place, one, other) in enumerate(AROUND):
            self.assertIs(is_ring(THREE, AROUND[:at] + [(place, other, one)] + AROUND[at + 1:]), False)

    def test_a_step_exchanged(self):
        self.assertIs(is_ring(THREE, [AROUND[1], AROUND[0], AROUND[2]]), False)
        self.assertIs(is_ring(THREE, [(1, "a", "b"), AROUND[1], AROUND[2]]), False)
        self.assertIs(is_ring(THREE, [AROUND[0], (0, "b", "a"), AROUND[2]]), False)
        hall = THREE + (rod(2, 4, A, B), rod(1, 1, A, B))
        self.assertIs(is_ring(hall, [(3, "a", "b"), AROUND[1], AROUND[2]]), True)
        self.assertIs(is_ring(hall, [(4, "a", "b"), AROUND[1], AROUND[2]]), False)

    def test_a_step_put_in(self):
        self.assertIs(is_ring(THREE, AROUND + [(0, "a", "a")]), True)
        self.assertIs(is_ring(THREE, [AROUND[0], (1, "b", "b"), (0, "b", "b")] + AROUND[1:]), True)
        self.assertIs(is_ring(THREE, AROUND + [(0, "a", "b")]), False)
        self.assertIs(is_ring(THREE, AROUND + [(0, "b", "b")]), False)
        self.assertIs(is_ring(THREE, AROUND + [(0, "a", "b"), (0, "b", "a")]), True)

    def test_a_step_left_out(self):
        for at in range(3):
            self.assertIs(is_ring(THREE, AROUND[:at] + AROUND[at + 1:]), False)
            self.assertIs(is_ring(THREE, AROUND[at:at + 1]), False)

    def test_several_times_around(self):
        self.assertIs(is_ring(THREE, AROUND * 2), True)
        self.assertIs(is_ring(THREE, AROUND * 300), True)

    def test_the_empty_list(self):
        self.assertIs(is_ring(THREE, []), False)
        self.assertIs(is_ring(STILL, []), False)

    def test_as_heavy_as_it_was(self):
        self.assertIs(is_ring(STILL, AROUND), False)
        self.assertIs(is_ring(THREE, [(0, "a", "a")]), False)
        self.assertIs(is_ring(THREE, [(0, "a", "b"), (0, "b", "a")]), False)
        turned = [(2, "a", "c"), (1, "c", "b"), (0, "b", "a")]
        self.assertIs(is_ring(THREE, AROUND + turned), False)
        self.assertIs(is_ring(THREE, AROUND + turned + AROUND), True)

    def test_steps_that_do_not_follow_one_another(self):
        self.assertIs(is_ring(THREE, [(0, "a", "b"), (2, "c", "a")]), False)
        self.assertIs(is_ring(THREE, [(0, "a", "b"), (2, "a", "c"), (1, "c", "b")]), False)
        self.assertIs(is_ring(THREE, [(0, "a", "b"), (1, "b", "c")]), False)

    def test_a_place_or_name_that_is_not_there(self):
        for step in [(3, "a", "b"), (-3, "a", "b"), (-1, "a", "b"), (0, "a", "c"), (0, "c", "b"), (0, "a", "z"),
                     (0, "", "b"), (10 ** 20, "a", "b"), (1, "a", "b")]:
            self.assertIs(is_ring(THREE, [step] + AROUND[1:]), False)
        # Only from behind would these places be there.
        self.assertIs(is_ring(THREE, [(-3, "a", "b"), (-2, "b", "c"), (-1, "c", "a")]), False)
        self.assertIs(is_ring(THREE, AROUND[:2] + [(-1, "c", "a")]), False)
        # These follow one another, but the names are in other mobiles.
        self.assertIs(is_ring(THREE, [(0, "a", "c"), (2, "c", "a")]), False)
        self.assertIs(is_ring(THREE, [(0, "c", "b"), (1, "b", "c")]), False)
        self.assertIs(is_ring(THREE, [(0, "c", "c")]), False)

    def test_true_as_a_place(self):
        self.assertIs(is_ring(THREE, [AROUND[0], (True, "b", "c"), AROUND[2]]), False)
        self.assertIs(is_ring(THREE, [(False, "a", "b"), AROUND[1], AROUND[2]]), False)

    def test_lists_in_the_place_of_tuples(self):
        self.assertIs(is_ring(THREE, [list(step) for step in AROUND]), False)
        self.assertIs(is_ring(THREE, [list(AROUND[0])] + AROUND[1:]), False)
        self.assertIs(is_ring(THREE, tuple(AROUND)), False)

    def test_things_of_any_kind(self):
        itself = []
        itself.append(itself)
        for thing in ODD_THINGS + [itself, {step: True for step in AROUND}, set(AROUND), iter(AROUND), "abc"]:
            self.assertIs(is_ring(THREE, thing), False)
            self.assertIs(is_ring(THREE, [thing]), False)
            self.assertIs(is_ring(THREE, AROUND + [thing]), False)
            self.assertIs(is_ring(THREE, [(0, "a", thing), (1, thing, "c"), AROUND[2]]), False)
            if thing != "a" or not isinstance(thing, str):
                self.assertIs(is_ring(THREE, [(0, thing, "b")] + AROUND[1:]), False)
            if not isinstance(thing, int) or isinstance(thing, bool):
                self.assertIs(is_ring(THREE, [(thing, "a", "b")] + AROUND[1:]), False)
        for wrong in [(0, "a"), (0, "a", "b", "b"), ("a", "b", 0), (0, "ab"), (0, ANY, "b"), (0, Strange(), "b")]:
            self.assertIs(is_ring(THREE, [wrong] + AROUND[1:]), False)

    def test_every_short_list_of_steps(self):
        hall = (rod(1, 2, A, B), rod(2, 1, B, rod(1, 1, A, C)))
        steps = [(place, one, other) for place in range(3) for one in "abc" for other in "abc"]
        seen = {True: 0, False: 0}
        for many in range(4):
            for thing in product(steps, repeat=many):
                said = is_ring(hall, list(thing))
                seen[said] += 1
                self.assertIs(said, surely_ring(hall, list(thing)))
        self.assertTrue(seen[True] and seen[False])


class Together(unittest.TestCase):
    def test_all_names_hang_together(self):
        self.assertEqual(together(GROUPS[:2]), (("a", 6), ("b", 3), ("c", 1)))
        self.assertEqual(together(STILL), (("a", 2), ("b", 1), ("c", 1)))

    def test_several_groups(self):
        self.assertEqual(together(GROUPS), (("a", 6), ("b", 3), ("c", 1), ("d", 2), ("e", 3)))
        self.assertEqual(together((C, A, rod(1, 1, B, B))), (("a", 1), ("b", 1), ("c", 1)))
        # The groups lie across one another in the order of names.
        self.assertEqual(together((rod(1, 2, A, C), rod(1, 3, B, D))), (("a", 2), ("b", 3), ("c", 1), ("d", 1)))

    def test_a_mobile_that_joins_groups(self):
        hall = (rod(1, 2, A, B), rod(3, 2, C, D), rod(1, 1, B, D))
        self.assertEqual(together(hall), (("a", 6), ("b", 3), ("c", 2), ("d", 3)))

    def test_of_one_mobile(self):
        self.assertEqual(together((DEEP,)), (("a", 2), ("b", 3), ("c", 1)))

    def test_beyond_999999(self):
        # Each next name weighs 81/10 of the one ahead of it.
        hall = tuple([rod(9, 1, weight(one), rod(1, 9, weight(other), weight("z" + one)))
                      for one, other in zip("abcdef", "bcdefg")])
        numbers = dict(together(hall))
        self.assertEqual(numbers["a"], 10 ** 6)
        self.assertEqual(numbers["g"], 81 ** 6)

    def test_never(self):
        for hall in (THREE, THROUGH, (rod(1, 1, A, B), rod(1, 2, A, B))):
            self.assertRaises(Never, together, hall)

    def test_random_halls(self):
        for hall in random_halls(31, 200, "abcdefghij", rods=3, longest=3):
            if not can_hang(hall):
                self.assertRaises(Never, together, hall)
                continue
            self.least_by_group(hall, together(hall))

    def test_fitting_halls(self):
        for hall, numbers in fitting_halls(32, 200):
            self.least_by_group(hall, together(hall))

    def least_by_group(self, hall, told):
        self.assertIsInstance(told, tuple)
        names = sorted(set().union(*[names_of(mobile) for mobile in hall]))
        self.assertEqual([name for name, number in told], names)
        numbers = dict(told)
        for mobile in hall:
            self.assertTrue(stays(mobile, numbers))
        for group in groups_of(hall):
            self.assertEqual(gcd(*[numbers[name] for name in group]), 1)


class Settled(unittest.TestCase):
    def test_of_no_name(self):
        self.assertEqual(settled(GROUPS, ()), [])
        self.assertEqual(settled((A,), ()), [])

    def test_of_some_names(self):
        self.assertEqual(settled(GROUPS, (("c", 5),)), [("a", (30, 1)), ("b", (15, 1)), ("c", (5, 1))])
        self.assertEqual(settled(GROUPS, (("e", 6),)), [("d", (4, 1)), ("e", (6, 1))])

    def test_of_all_names(self):
        told = (("a", 12), ("b", 6), ("c", 2), ("d", 4), ("e", 6))
        self.assertEqual(settled(GROUPS, told), [(name, (number, 1)) for name, number in told])

    def test_as_fractions(self):
        self.assertEqual(settled(GROUPS, (("a", 4),)), [("a", (4, 1)), ("b", (2, 1)), ("c", (2, 3))])
        self.assertEqual(settled(GROUPS, (("a", 1), ("d", 1))),
                         [("a", (1, 1)), ("b", (1, 2)), ("c", (1, 6)), ("d", (1, 1)), ("e", (3, 2))])

    def test_names_rise(self):
        hall = (rod(1, 2, A, C), rod(1, 3, B, D))
        self.assertEqual(settled(hall, (("c", 1), ("d", 2))),
                         [("a", (2, 1)), ("b", (6, 1)), ("c", (1, 1)), ("d", (2, 1))])

    def test_numbers_from_1_to_999999(self):
        self.assertEqual(settled(GROUPS, (("e", 1),)), [("d", (2, 3)), ("e", (1, 1))])
        self.assertEqual(settled(GROUPS, (("b", 999999),)),
                         [("a", (1999998, 1)), ("b", (999999, 1)), ("c", (333333, 1))])

    def test_told_ones_that_bar_one_another(self):
        self.assertRaises(Never, settled, GROUPS, (("a", 2), ("b", 2)))
        self.assertRaises(Never, settled, GROUPS, (("a", 6), ("c", 2)))
        self.assertRaises(Never, settled, GROUPS, (("a", 6), ("b", 3), ("c", 2)))
        self.assertRaises(Never, settled, GROUPS, (("a", 6), ("d", 3), ("e", 2)))

    def test_a_hall_that_can_not(self):
        self.assertRaises(Never, settled, THREE, ())
        self.assertRaises(Never, settled, THREE, (("a", 1),))
        # What is told lies in the other group.
        self.assertRaises(Never, settled, THREE + (D,), (("d", 1),))

    def test_no_weights(self):
        hall = (DEEP, rod(1, 1, D, weight("e")))
        for number, thing in enumerate(WRONG_WEIGHTS):
            with self.subTest(number=number):
                self.assertRaises(NoWeights, settled, hall, thing)
        for wrong in (0, 1000000, True, False, "1", (1, 1)):
            self.assertRaises(NoWeights, settled, hall, (("a", wrong),))
        self.assertRaises(NoWeights, settled, hall, (("b", 3), ("a", 2)))
        self.assertRaises(NoWeights, settled, hall, (("a", 2), ("a", 2)))

    def test_a_name_that_is_not_in_the_hall(self):
        self.assertRaises(NoWeights, settled, GROUPS, (("f", 1),))
        self.assertRaises(NoWeights, settled, GROUPS, (("a", 6), ("aa", 6), ("b", 3)))

    def test_the_order_of_the_refusals(self):
        for told in (None, [], (("a", 0),), (("z", 1),), (("a", 1), ("b", 1))):
            for hall in (None, (), (BARRED,), (A,) * 7, list(THREE)):
                self.assertRaises(NoHall, settled, hall, told)
        for told in (None, [], (("a", 0),), (("z", 1),), (("a", 1), ("b", 7), ("z", 1))):
            self.assertRaises(NoWeights, settled, THREE, told)
        self.assertRaises(NoWeights, settled, GROUPS, (("a", 1), ("b", 7), ("z", 1)))

    def test_fitting_halls(self):
        chance = random.Random(41)
        for hall, numbers in fitting_halls(42, 200):
            names = sorted(set().union(*[names_of(mobile) for mobile in hall]))
            some = sorted(chance.sample(names, chance.randint(0, len(names))))
            wanted = sorted(set().union(*[group for group in groups_of(hall) if group & set(some)]))
            answer = settled(hall, tuple([(name, numbers[name]) for name in some]))
            self.assertEqual([name for name, fraction in answer], wanted)
            self.check_fractions(hall, answer)
            for name in some:
                self.assertEqual(dict(answer)[name], (numbers[name], 1))

    def check_fractions(self, hall, answer):
        self.assertIsInstance(answer, list)
        for name, fraction in answer:
            self.assertIsInstance(fraction, tuple)
            self.assertEqual(gcd(*fraction), 1)
        numbers = {name: Fraction(*fraction) for name, fraction in answer}
        for mobile in hall:
            if leaves(mobile)[0][1] in numbers:
                self.assertTrue(stays(mobile, numbers))


if __name__ == "__main__":
    unittest.main()
