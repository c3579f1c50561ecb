import random
import unittest
from itertools import product

from hangstill.choosing import choices, one_changed
from hangstill.errors import NoMobile, NoNumber, NoWeights
from hangstill.mobiles import is_still
from hangstill.shares import bar, least

from samples import (A, ANY, B, BARRED, C, D, DEEP, ODD_THINGS, Strange, TWICE, WRONG_MOBILES, WRONG_WEIGHTS, chain,
                     fitting_mobile, names_of, random_mobiles, rod, stays, told_weights, weight)

# Among the odd things this one is fit.
WRONG_NUMBERS = [thing for thing in ODD_THINGS if not isinstance(thing, tuple) or thing != (1, 2)]
WRONG_NUMBERS += [
    (), (1, 2, 3, 4, 5, 6, 7), tuple(range(1, 20)), (2, 1), (1, 3, 2), (3, 2, 1), (1, 1), (1, 2, 2), (2, 2, 3),
    (0,), (0, 1), (1000000,), (1, 1000000), (-1, 1), (1, 10 ** 20), (True,), (True, 2), (False, 1), (1, True),
    (1, None), (1, "2"), ("1", "2"), ("a",), (1, (2,)), (1, [2]), ([1], [2]), (1, {}), (b"1",), (1, Strange()),
    (Strange(),), (ANY,), (1, ANY), [1, 2], [1], {1, 2}, {1: 2}, range(1, 3), frozenset({1}), "12", b"12", 1, 12,
    iter((1, 2)), None,
]

PARTS = (1, 2, 3, 4, 6, 9)


def all_choices(mobile, numbers):
    names = sorted(names_of(mobile))
    chosen = [dict(zip(names, numbers)) for numbers in product(numbers, repeat=len(names))]
    return sorted(told_weights(weights) for weights in chosen if stays(mobile, weights))


def all_changed(mobile, numbers, most):
    told = []
    for name in sorted(names_of(mobile)):
        for number in range(1, most + 1):
            if number != numbers[name] and stays(mobile, {**numbers, name: number}):
                told.append((name, number))
    return told


class Choices(unittest.TestCase):
    def test_of_one_name(self):
        self.assertEqual(choices(A, (3,)), [(("a", 3),)])
        self.assertEqual(choices(A, (1, 5, 999999)), [(("a", 1),), (("a", 5),), (("a", 999999),)])
        self.assertEqual(choices(rod(2, 2, A, A), (2, 7)), [(("a", 2),), (("a", 7),)])

    def test_of_several(self):
        self.assertEqual(choices(rod(1, 2, A, B), (1, 2, 4)), [(("a", 2), ("b", 1)), (("a", 4), ("b", 2))])
        self.assertEqual(choices(DEEP, (1, 2, 3, 4, 6)),
                         [(("a", 2), ("b", 3), ("c", 1)), (("a", 4), ("b", 6), ("c", 2))])
        self.assertEqual(choices(TWICE, (3, 5, 6, 10)), [(("a", 3), ("b", 6)), (("a", 5), ("b", 10))])

    def test_perhaps_the_same_number(self):
        self.assertEqual(choices(rod(1, 1, A, B), (2, 5)), [(("a", 2), ("b", 2)), (("a", 5), ("b", 5))])

    def test_a_common_divisor(self):
        # 2 to 3 comes in 4 and 6, though 2 and 3 are not among the numbers.
        self.assertEqual(choices(rod(3, 2, A, B), (4, 6, 9)), [(("a", 4), ("b", 6)), (("a", 6), ("b", 9))])

    def test_none_that_fit(self):
        self.assertEqual(choices(rod(1, 2, A, B), (1, 3, 5)), [])
        self.assertEqual(choices(rod(1, 9, A, B), (1,)), [])
        self.assertEqual(choices(DEEP, (1, 2)), [])
        self.assertEqual(choices(DEEP, (2, 3)), [])

    def test_something_bars_it(self):
        for mobile in (BARRED, rod(1, 2, A, A), rod(1, 1, rod(1, 2, B, B), A)):
            self.assertEqual(choices(mobile, (1, 2, 3, 4, 5, 6)), [])

    def test_the_largest_numbers(self):
        self.assertEqual(choices(rod(1, 3, A, B), (333333, 999999)), [(("a", 999999), ("b", 333333))])
        self.assertEqual(choices(rod(1, 1, A, B), (999999,)), [(("a", 999999), ("b", 999999))])

    def test_of_1_to_6_numbers(self):
        for many in range(1, 7):
            numbers = tuple(range(1, many + 1))
            self.assertEqual(choices(A, numbers), [(("a", number),) for number in numbers])

    def test_many_names(self):
        mobile = chain(5)
        self.assertEqual(choices(mobile, (1, 2, 4, 8, 16)), [least(mobile)])
        told = [tuple((name, times * many) for name, many in least(mobile)) for times in (3, 6)]
        self.assertEqual(choices(mobile, (3, 6, 12, 24, 48, 96)), told)
        self.assertEqual(choices(mobile, (1, 2, 4, 8, 32)), [])
        names = iter([one + other for one in "abcd" for other in "abcdefgh"])
        self.assertEqual(len(choices(like_arms(5, names), (1, 7, 8))), 3)

    def test_the_list_rises(self):
        # By the first name, wherever it hangs.
        told = choices(rod(1, 2, C, B), (1, 2, 4, 8, 16))
        self.assertEqual([weights[0] for weights in told], [("b", 1), ("b", 2), ("b", 4), ("b", 8)])
        self.assertEqual([weights[1] for weights in told], [("c", 2), ("c", 4), ("c", 8), ("c", 16)])

    def test_against_all_weights_of_the_numbers(self):
        chance = random.Random(91)
        seen = {}
        for mobile in random_mobiles(92, 400, names="abc", rods=2, longest=2):
            numbers = tuple(sorted(chance.sample((1, 2, 3, 4, 6, 8, 9, 12), chance.randint(1, 6))))
            told = choices(mobile, numbers)
            self.assertIsInstance(told, list)
            self.assertEqual(told, all_choices(mobile, numbers))
            self.assertEqual(told, sorted(told))
            if bar(mobile) is not None:
                self.assertEqual(told, [])
            for weights in told:
                self.assertIs(is_still(mobile, weights), True)
            key = (len(names_of(mobile)), min(len(told), 2))
            seen[key] = seen.get(key, 0) + 1
        for names in (2, 3):
            for many in (0, 1):
                self.assertGreater(seen[names, many], 3)

    def test_fitting_ones(self):
        chance = random.Random(93)
        for number in range(100):
            numbers = {name: chance.choice(PARTS) for name in "abcd"}
            mobile = fitting_mobile(chance, numbers, 3)
            told = choices(mobile, PARTS)
            self.assertEqual(told, all_choices(mobile, PARTS))
            self.assertIn(told_weights({name: numbers[name] for name in names_of(mobile)}), told)

    def test_no_number(self):
        for number, thing in enumerate(WRONG_NUMBERS):
            with self.subTest(number=number):
                for mobile in (A, DEEP, BARRED):
                    self.assertRaises(NoNumber, choices, mobile, thing)

    def test_no_mobile_is_named_first(self):
        for number, thing in enumerate(WRONG_MOBILES):
            with self.subTest(number=number):
                for numbers in ((1, 2), (), None, [], (2, 1), (0,), (True,)):
                    self.assertRaises(NoMobile, choices, thing, numbers)


def like_arms(rods, names):
    if rods == 0:
        return weight(next(names))
    one = like_arms(rods - 1, names)
    return rod(1, 1, one, like_arms(rods - 1, names))


class OneChanged(unittest.TestCase):
    def test_it_hangs_still_already(self):
        self.assertEqual(one_changed(rod(1, 2, A, B), (("a", 2), ("b", 1))), [])
        self.assertEqual(one_changed(DEEP, (("a", 4), ("b", 6), ("c", 2))), [])
        self.assertEqual(one_changed(TWICE, (("a", 3), ("b", 6))), [])

    def test_of_two_names(self):
        self.assertEqual(one_changed(rod(1, 2, A, B), (("a", 4), ("b", 3))), [("a", 6), ("b", 2)])
        self.assertEqual(one_changed(rod(1, 1, A, B), (("a", 4), ("b", 3))), [("a", 3), ("b", 4)])

    def test_one_of_them_is_another(self):
        for name, number in (("a", 4), ("b", 6), ("c", 2)):
            for wrong in (1, 5, 999999):
                numbers = {"a": 4, "b": 6, "c": 2}
                numbers[name] = wrong
                self.assertEqual(one_changed(DEEP, told_weights(numbers)), [(name, number)])

    def test_any_others(self):
        self.assertEqual(one_changed(DEEP, (("a", 1), ("b", 1), ("c", 1))), [])
        self.assertEqual(one_changed(DEEP, (("a", 2), ("b", 4), ("c", 2))), [])

    def test_no_whole_number(self):
        # a would have to be 3/2, or b 2/3.
        self.assertEqual(one_changed(rod(2, 3, A, B), (("a", 1), ("b", 1))), [])
        self.assertEqual(one_changed(rod(1, 2, A, B), (("a", 5), ("b", 1))), [("a", 2)])
        # By b and c, a would have to be 2/3.
        self.assertEqual(one_changed(rod(3, 1, A, rod(1, 1, B, C)), (("a", 7), ("b", 1), ("c", 1))), [])
        self.assertEqual(one_changed(rod(3, 1, A, rod(1, 1, B, C)), (("a", 7), ("b", 3), ("c", 3))), [("a", 2)])

    def test_up_to_999999(self):
        self.assertEqual(one_changed(rod(1, 3, A, B), (("a", 1), ("b", 333333))), [("a", 999999)])
        self.assertEqual(one_changed(rod(1, 3, A, B), (("a", 1), ("b", 333334))), [])
        self.assertEqual(one_changed(rod(1, 1, A, B), (("a", 1), ("b", 999999))), [("a", 999999), ("b", 1)])
        # Just beyond: 1000000 is twice 500000.
        self.assertEqual(one_changed(rod(1, 2, A, B), (("a", 1), ("b", 500000))), [])
        self.assertEqual(one_changed(rod(1, 2, A, B), (("a", 2), ("b", 500000))), [("b", 1)])
        self.assertEqual(one_changed(rod(1, 2, A, B), (("a", 7), ("b", 499999))), [("a", 999998)])

    def test_of_one_name_alone(self):
        for mobile in (A, rod(3, 3, A, A), rod(1, 2, rod(1, 1, A, A), A)):
            for weights in ((("a", 1),), (("a", 999999),), (("a", 3), ("b", 5))):
                self.assertEqual(one_changed(mobile, weights), [])
        self.assertEqual(one_changed(rod(1, 2, A, A), (("a", 1),)), [])

    def test_other_names_are_not_told(self):
        weights = (("a", 4), ("aa", 9), ("b", 3), ("c", 1), ("d", 7))
        self.assertEqual(one_changed(rod(1, 2, A, B), weights), [("a", 6), ("b", 2)])
        self.assertEqual(one_changed(rod(1, 2, A, B), (("a", 2), ("b", 1), ("c", 5))), [])
        self.assertEqual(one_changed(rod(7, 1, C, D), weights), [])

    def test_something_bars_it(self):
        for mobile in (BARRED, rod(1, 1, rod(1, 2, B, B), A)):
            for a, b in product(range(1, 7), repeat=2):
                self.assertEqual(one_changed(mobile, (("a", a), ("b", b))), [])

    def test_names_several_times(self):
        self.assertEqual(one_changed(TWICE, (("a", 3), ("b", 4))), [("a", 2), ("b", 6)])

    def test_the_list_rises(self):
        self.assertEqual(one_changed(rod(1, 1, C, B), (("b", 9), ("c", 5))), [("b", 5), ("c", 9)])

    def test_against_all_numbers(self):
        chance = random.Random(94)
        seen = {}
        for mobile in random_mobiles(95, 300, names="abc", rods=2, longest=3):
            numbers = {name: chance.randint(1, 6) for name in "abc"}
            told = one_changed(mobile, told_weights(numbers))
            self.assertIsInstance(told, list)
            if len(names_of(mobile)) == 1:
                self.assertEqual(told, [])
                continue
            self.assertEqual([pair for pair in told if pair[1] <= 100], all_changed(mobile, numbers, 100))
            for name, number in told:
                self.assertTrue(stays(mobile, {**numbers, name: number}))
            seen[len(told)] = seen.get(len(told), 0) + 1
        for many in (0, 1, 2):
            self.assertGreater(seen[many], 3)

    def test_fitting_ones(self):
        chance = random.Random(96)
        changed = 0
        for number in range(150):
            numbers = {name: chance.choice(PARTS) for name in "abcd"}
            mobile = fitting_mobile(chance, numbers, 4)
            names = sorted(names_of(mobile))
            if len(names) == 1:
                continue
            self.assertEqual(one_changed(mobile, told_weights(numbers)), [])
            name = chance.choice(names)
            other = {**numbers, name: numbers[name] + chance.randint(1, 5)}
            told = one_changed(mobile, told_weights(other))
            self.assertIn((name, numbers[name]), told)
            self.assertEqual([pair for pair in told if pair[1] <= 150], all_changed(mobile, other, 150))
            if len(names) > 2:
                self.assertEqual(told, [(name, numbers[name])])
            changed += 1
        self.assertGreater(changed, 50)

    def test_no_weights(self):
        for number, thing in enumerate(WRONG_WEIGHTS):
            with self.subTest(number=number):
                self.assertRaises(NoWeights, one_changed, DEEP, thing)
                self.assertRaises(NoWeights, one_changed, BARRED, thing)

    def test_the_numbers_bounds(self):
        for wrong in (0, 1000000, -1, True, False):
            self.assertRaises(NoWeights, one_changed, rod(1, 1, A, B), (("a", 1), ("b", wrong)))
            self.assertRaises(NoWeights, one_changed, A, (("a", 1), ("b", wrong)))

    def test_a_name_is_missing(self):
        for weights in ((), (("a", 1),), (("a", 1), ("b", 1)), (("b", 1), ("c", 1)), (("a", 1), ("b", 1), ("d", 1))):
            self.assertRaises(NoWeights, one_changed, DEEP, weights)
        self.assertRaises(NoWeights, one_changed, BARRED, (("a", 1),))
        self.assertRaises(NoWeights, one_changed, A, ())

    def test_no_mobile_is_named_first(self):
        for number, thing in enumerate(WRONG_MOBILES):
            with self.subTest(number=number):
                for weights in ((("a", 1), ("b", 1), ("c", 1)), (), None, [], (("a", 0),)):
                    self.assertRaises(NoMobile, one_changed, thing, weights)


if __name__ == "__main__":
    unittest.main()
