"""Nothing is kept or changed: asked twice each function tells the same, in a new list."""

import copy
import unittest

from hangstill.arming import arms_for, how_many_arms
from hangstill.choosing import choices, one_changed
from hangstill.deeds import hung, longer, plain, put, turned
from hangstill.errors import HangError
from hangstill.halls import is_ring, ring, settled, together
from hangstill.mobiles import is_still, leaves, load, tips
from hangstill.shapes import how_many_turned, least_turned, same_shape
from hangstill.shares import alike, bar, least, shares

from samples import A, B, BARRED, C, DEEP, TWICE, chain, rod

WEIGHTS = (("a", 1), ("b", 3), ("c", 5))
STILL = (rod(1, 2, A, B), rod(1, 3, B, C))
THREE = (rod(1, 2, A, B), rod(1, 1, B, C), rod(1, 1, C, A))
AROUND = [(0, "a", "b"), (1, "b", "c"), (2, "c", "a")]

CALLS = (
    (leaves, (DEEP,)), (load, (DEEP, WEIGHTS)), (tips, (DEEP, WEIGHTS)), (is_still, (DEEP, WEIGHTS)),
    (shares, (DEEP,)), (shares, (BARRED,)), (bar, (BARRED,)), (bar, (TWICE,)), (least, (DEEP,)),
    (alike, (DEEP, TWICE)), (ring, (THREE,)), (ring, (STILL,)), (is_ring, (THREE, AROUND)), (is_ring, (STILL, AROUND)),
    (together, (STILL,)), (settled, (STILL, (("b", 7),))), (settled, (STILL, ())),
    (turned, (DEEP, "r")), (longer, (DEEP, "r", 3)), (plain, (rod(2, 4, A, DEEP),)), (put, (DEEP, "rl", TWICE)),
    (put, (DEEP, "", TWICE)), (hung, (DEEP, TWICE, (("a", 2), ("b", 4), ("c", 3)))),
    (least_turned, (DEEP,)), (how_many_turned, (TWICE,)), (same_shape, (DEEP, TWICE)), (same_shape, (DEEP, DEEP)),
    (arms_for, (DEEP, WEIGHTS)), (how_many_arms, (DEEP, WEIGHTS)),
    (choices, (DEEP, (1, 2, 3, 4, 6))), (choices, (A, (1, 2))), (choices, (BARRED, (1, 2))),
    (one_changed, (TWICE, WEIGHTS)), (one_changed, (rod(1, 1, A, B), WEIGHTS)), (one_changed, (DEEP, WEIGHTS)),
    (one_changed, (A, WEIGHTS)), (one_changed, (BARRED, WEIGHTS)),
)

REFUSED = (
    (leaves, (["weight", "a"],)), (load, (chain(6), [])), (tips, (DEEP, [("a", 1)])), (is_still, (DEEP, {"a": 1})),
    (shares, ([A],)), (bar, ({},)), (least, (BARRED,)), (alike, (DEEP, [])), (ring, ([A],)), (is_ring, ([A], AROUND)),
    (together, (THREE,)), (settled, (THREE, ())), (settled, (STILL, [("b", 7)])),
    (turned, (list(DEEP), "r")), (turned, (DEEP, ["r"])), (turned, (DEEP, "l")), (longer, (DEEP, "r", 4)),
    (longer, (DEEP, "r", [2])), (plain, ([A],)), (put, (DEEP, "l", chain(5))), (put, (DEEP, "l", ["weight", "a"])),
    (hung, (A, B, [("a", 1), ("b", 1)])), (hung, (A, B, (("a", 1), ("b", 10)))),
    (hung, (chain(5), A, tuple([(name, 1) for name in "abcdef"]))), (least_turned, ([],)), (how_many_turned, ({},)),
    (same_shape, (A, ["weight", "a"])), (arms_for, (DEEP, [("a", 1)])), (arms_for, (DEEP, WEIGHTS[:2] + (("c", 40),))),
    (how_many_arms, (DEEP, {"a": 1})), (choices, (DEEP, [1, 2])), (choices, (DEEP, ([1], [2]))),
    (one_changed, (DEEP, [["a", 1]])), (one_changed, ([DEEP], WEIGHTS)),
)


class PointOne(unittest.TestCase):
    def test_asked_twice(self):
        for function, given in CALLS:
            with self.subTest(function.__name__):
                before = copy.deepcopy(given)
                told = function(*given)
                kept = copy.deepcopy(told)
                self.assertEqual(given, before)
                if isinstance(told, list):
                    told.append("more")
                    told.reverse()
                again = function(*given)
                self.assertEqual(again, kept)
                self.assertEqual(function(*before), kept)
                if isinstance(told, list):
                    self.assertIsNot(again, told)
                    again.clear()
                    self.assertEqual(function(*given), kept)

    def test_a_ring_that_is_told_is_not_kept(self):
        told = ring(THREE)
        told.append((0, "a", "b"))
        self.assertIs(is_ring(THREE, told), False)
        self.assertIs(is_ring(THREE, ring(THREE)), True)

    def test_what_is_refused_changes_nothing(self):
        for function, given in REFUSED:
            with self.subTest(function.__name__):
                before = copy.deepcopy(given)
                for time in range(2):
                    self.assertRaises(HangError, function, *given)
                    self.assertEqual(given, before)
        for function, given in CALLS:
            told = function(*given)
            for refused, wrong in REFUSED:
                self.assertRaises(HangError, refused, *wrong)
            self.assertEqual(function(*given), told)

    def test_kinds(self):
        for function in (leaves, shares):
            self.assertIsInstance(function(DEEP), list)
            for leaf in function(DEEP):
                self.assertIsInstance(leaf, tuple)
        self.assertIsInstance(tips(DEEP, WEIGHTS), list)
        self.assertIsInstance(bar(BARRED), tuple)
        self.assertIsInstance(ring(THREE), list)
        for told in (turned(DEEP, "r"), longer(DEEP, "r", 3), plain(DEEP), put(DEEP, "r", A), least_turned(DEEP),
                     arms_for(DEEP, WEIGHTS), hung(A, B, WEIGHTS)):
            self.assertIsInstance(told, tuple)
        for told in (how_many_turned(DEEP), how_many_arms(DEEP, WEIGHTS)):
            self.assertIs(type(told), int)
        for told in (choices(DEEP, (1, 2, 3)), one_changed(TWICE, WEIGHTS)):
            self.assertIsInstance(told, list)
            for part in told:
                self.assertIsInstance(part, tuple)


if __name__ == "__main__":
    unittest.main()
