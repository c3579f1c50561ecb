"""Nothing is kept or changed: asked twice each function tells the same, in a new list."""

import copy
import unittest

from hangstill.errors import HangError
from hangstill.halls import is_ring, ring, settled, together
from hangstill.mobiles import is_still, leaves, load, tips
from hangstill.shares import alike, bar, least, shares

from samples import A, B, BARRED, C, DEEP, TWICE, chain, rod

WEIGHTS = (("a", 1), ("b", 3), ("c", 5))
STILL = (rod(1, 2, A, B), rod(1, 3, B, C))
THREE = (rod(1, 2, A, B), rod(1, 1, B, C), rod(1, 1, C, A))
AROUND = [(0, "a", "b"), (1, "b", "c"), (2, "c", "a")]

CALLS = (
    (leaves, (DEEP,)), (load, (DEEP, WEIGHTS)), (tips, (DEEP, WEIGHTS)), (is_still, (DEEP, WEIGHTS)),
    (shares, (DEEP,)), (shares, (BARRED,)), (bar, (BARRED,)), (bar, (TWICE,)), (least, (DEEP,)),
    (alike, (DEEP, TWICE)), (ring, (THREE,)), (ring, (STILL,)), (is_ring, (THREE, AROUND)), (is_ring, (STILL, AROUND)),
    (together, (STILL,)), (settled, (STILL, (("b", 7),))), (settled, (STILL, ())),
)

REFUSED = (
    (leaves, (["weight", "a"],)), (load, (chain(6), [])), (tips, (DEEP, [("a", 1)])), (is_still, (DEEP, {"a": 1})),
    (shares, ([A],)), (bar, ({},)), (least, (BARRED,)), (alike, (DEEP, [])), (ring, ([A],)), (is_ring, ([A], AROUND)),
    (together, (THREE,)), (settled, (THREE, ())), (settled, (STILL, [("b", 7)])),
)


class PointOne(unittest.TestCase):
    def test_asked_twice(self):
        for function, given in CALLS:
            with self.subTest(function.__name__):
                before = copy.deepcopy(given)
                told = function(*given)
                kept = copy.deepcopy(told)
                self.assertEqual(given, before)
                if isinstance(told, list):
                    told.append("more")
                    told.reverse()
                again = function(*given)
                self.assertEqual(again, kept)
                self.assertEqual(function(*before), kept)
                if isinstance(told, list):
                    self.assertIsNot(again, told)
                    again.clear()
                    self.assertEqual(function(*given), kept)

    def test_a_ring_that_is_told_is_not_kept(self):
        told = ring(THREE)
        told.append((0, "a", "b"))
        self.assertIs(is_ring(THREE, told), False)
        self.assertIs(is_ring(THREE, ring(THREE)), True)

    def test_what_is_refused_changes_nothing(self):
        for function, given in REFUSED:
            with self.subTest(function.__name__):
                before = copy.deepcopy(given)
                for time in range(2):
                    self.assertRaises(HangError, function, *given)
                    self.assertEqual(given, before)
        for function, given in CALLS:
            told = function(*given)
            for refused, wrong in REFUSED:
                self.assertRaises(HangError, refused, *wrong)
            self.assertEqual(function(*given), told)

    def test_kinds(self):
        for function in (leaves, shares):
            self.assertIsInstance(function(DEEP), list)
            for leaf in function(DEEP):
                self.assertIsInstance(leaf, tuple)
        self.assertIsInstance(tips(DEEP, WEIGHTS), list)
        self.assertIsInstance(bar(BARRED), tuple)
        self.assertIsInstance(ring(THREE), list)


if __name__ == "__main__":
    unittest.main()
