"""Nothing is kept or changed: asked twice each function tells the same, in a new list."""

import copy
import unittest

from hangstill.arming import arms_for, how_many_arms
from hangstill.benches import Bench
from hangstill.binding import bound, spare
from hangstill.choosing import choices, one_changed
from hangstill.deeds import hung, longer, plain, put, turned
from hangstill.errors import HangError
from hangstill.halls import is_ring, ring, settled, together
from hangstill.mobiles import is_still, leaves, load, tips
from hangstill.pulling import pull, worst
from hangstill.shapes import how_many_turned, least_turned, same_shape
from hangstill.shares import alike, bar, least, shares
from hangstill.writing import read, read_weights, weights_text, written

from samples import A, B, BARRED, C, D, DEEP, TWICE, chain, rod
from test_interface import FUNCTIONS

WEIGHTS = (("a", 1), ("b", 3), ("c", 5))
STILL = (rod(1, 2, A, B), rod(1, 3, B, C))
THREE = (rod(1, 2, A, B), rod(1, 1, B, C), rod(1, 1, C, A))
AROUND = [(0, "a", "b"), (1, "b", "c"), (2, "c", "a")]


def bench_told(mobile, way, many, part):
    """What a new bench tells behind each of some calls."""
    bench = Bench(mobile)
    told = []
    for call in (lambda: bench.turn(way), lambda: bench.stretch(way, many), lambda: bench.hang(way, part), bench.undo,
                 bench.shorten, bench.undo, bench.undo, bench.again):
        told.append((call(), bench.now(), bench.deeds()))
    return told


CALLS = (
    (leaves, (DEEP,)), (load, (DEEP, WEIGHTS)), (tips, (DEEP, WEIGHTS)), (is_still, (DEEP, WEIGHTS)),
    (shares, (DEEP,)), (shares, (BARRED,)), (bar, (BARRED,)), (bar, (TWICE,)), (least, (DEEP,)),
    (alike, (DEEP, TWICE)), (ring, (THREE,)), (ring, (STILL,)), (is_ring, (THREE, AROUND)), (is_ring, (STILL, AROUND)),
    (together, (STILL,)), (settled, (STILL, (("b", 7),))), (settled, (STILL, ())),
    (turned, (DEEP, "r")), (longer, (DEEP, "r", 3)), (plain, (rod(2, 4, A, DEEP),)), (put, (DEEP, "rl", TWICE)),
    (put, (DEEP, "", TWICE)), (hung, (DEEP, TWICE, (("a", 2), ("b", 4), ("c", 3)))),
    (least_turned, (DEEP,)), (how_many_turned, (TWICE,)), (same_shape, (DEEP, TWICE)), (same_shape, (DEEP, DEEP)),
    (arms_for, (DEEP, WEIGHTS)), (how_many_arms, (DEEP, WEIGHTS)),
    (choices, (DEEP, (1, 2, 3, 4, 6))), (choices, (A, (1, 2))), (choices, (BARRED, (1, 2))),
    (one_changed, (TWICE, WEIGHTS)), (one_changed, (rod(1, 1, A, B), WEIGHTS)), (one_changed, (DEEP, WEIGHTS)),
    (one_changed, (A, WEIGHTS)), (one_changed, (BARRED, WEIGHTS)),
    (pull, (DEEP, WEIGHTS, "r")), (pull, (DEEP, WEIGHTS, "")), (worst, (DEEP, WEIGHTS)), (worst, (A, WEIGHTS)),
    (bound, (THREE,)), (bound, ((D, rod(1, 1, C, A), B),)), (spare, (STILL,)), (spare, (STILL * 2,)), (spare, ((A,),)),
    (written, (DEEP,)), (written, (A,)), (read, ("(2:1 a (1:3 b c))",)), (read, ("a",)), (weights_text, (WEIGHTS,)),
    (weights_text, ((),)), (read_weights, ("a=1 b=3 c=5",)), (read_weights, ("",)),
    (bench_told, (DEEP, "r", 3, TWICE)), (bench_told, (rod(2, 4, A, B), "", 2, A)),
)

REFUSED = (
    (leaves, (["weight", "a"],)), (load, (chain(6), [])), (tips, (DEEP, [("a", 1)])), (is_still, (DEEP, {"a": 1})),
    (shares, ([A],)), (bar, ({},)), (least, (BARRED,)), (alike, (DEEP, [])), (ring, ([A],)), (is_ring, ([A], AROUND)),
    (together, (THREE,)), (settled, (THREE, ())), (settled, (STILL, [("b", 7)])),
    (turned, (list(DEEP), "r")), (turned, (DEEP, ["r"])), (turned, (DEEP, "l")), (longer, (DEEP, "r", 4)),
    (longer, (DEEP, "r", [2])), (plain, ([A],)), (put, (DEEP, "l", chain(5))), (put, (DEEP, "l", ["weight", "a"])),
    (hung, (A, B, [("a", 1), ("b", 1)])), (hung, (A, B, (("a", 1), ("b", 10)))),
    (hung, (chain(5), A, tuple([(name, 1) for name in "abcdef"]))), (least_turned, ([],)), (how_many_turned, ({},)),
    (same_shape, (A, ["weight", "a"])), (arms_for, (DEEP, [("a", 1)])), (arms_for, (DEEP, WEIGHTS[:2] + (("c", 40),))),
    (how_many_arms, (DEEP, {"a": 1})), (choices, (DEEP, [1, 2])), (choices, (DEEP, ([1], [2]))),
    (one_changed, (DEEP, [["a", 1]])), (one_changed, ([DEEP], WEIGHTS)),
    (pull, ([DEEP], WEIGHTS, "")), (pull, (DEEP, [("a", 1)], "")), (pull, (DEEP, WEIGHTS, ["r"])),
    (worst, (["rod"], WEIGHTS)), (worst, (DEEP, {"a": 1})), (bound, ([A],)), (bound, ((A, ["weight", "b"]),)),
    (spare, ([A],)), (spare, (THREE,)), (written, (["weight", "a"],)), (read, (["a"],)), (read, ("(1:2 a b",)),
    (weights_text, ([("a", 1)],)), (read_weights, ([],)), (read_weights, ("b=1 a=1",)), (Bench, ([A],)),
    (bench_told, (DEEP, ["r"], 3, TWICE)), (bench_told, (DEEP, "r", [3], TWICE)), (bench_told, (DEEP, "r", 4, TWICE)),
    (bench_told, (DEEP, "r", 3, ["weight", "a"])), (bench_told, (DEEP, "r", 3, chain(5))),
)

# By each of these functions True or False, in the place of 1 or 0, is refused.
WITH_TRUE = (
    (leaves, (rod(True, 1, A, B),)), (load, (A, (("a", True),))), (tips, (A, (("a", True),))),
    (is_still, (A, (("a", True),))), (shares, (rod(1, True, A, B),)), (bar, (rod(1, True, A, B),)),
    (least, (rod(1, True, A, B),)), (alike, (A, rod(1, True, A, B))), (ring, ((rod(1, True, A, B),),)),
    (is_ring, ((rod(1, True, A, B),), [])), (together, ((rod(1, True, A, B),),)), (settled, (STILL, (("a", True),))),
    (turned, (rod(1, True, A, B), "")), (longer, (DEEP, "", True)), (longer, (DEEP, "", False)),
    (plain, (rod(1, True, A, B),)), (put, (DEEP, "", rod(1, True, A, B))), (hung, (A, B, (("a", 1), ("b", True)))),
    (least_turned, (rod(1, True, A, B),)), (how_many_turned, (rod(1, True, A, B),)),
    (same_shape, (A, rod(1, True, A, B))), (arms_for, (A, (("a", True),))), (how_many_arms, (A, (("a", True),))),
    (choices, (A, (True, 2))), (one_changed, (A, (("a", True),))), (pull, (DEEP, WEIGHTS, True)),
    (pull, (rod(1, 1, A, A), (("a", True),), "")), (worst, (A, (("a", True),))), (bound, ((rod(1, True, A, B),),)),
    (spare, ((rod(1, True, A, B),),)), (written, (rod(1, True, A, B),)), (read, (True,)), (read, ("(1:True a b)",)),
    (weights_text, ((("a", True),),)), (read_weights, (False,)), (read_weights, ("a=True",)),
    (Bench, (rod(True, 1, A, B),)), (bench_told, (DEEP, "r", True, rod(1, True, A, B))),
)


class PointOne(unittest.TestCase):
    def test_no_function_is_left_out(self):
        names = [name for functions in FUNCTIONS.values() for name in functions]
        for table in (CALLS, REFUSED, WITH_TRUE):
            asked = [function.__name__ for function, given in table] + ["Bench"]
            self.assertEqual([name for name in names if name not in asked], [])

    def test_asked_twice(self):
        for function, given in CALLS:
            with self.subTest(function.__name__):
                before = copy.deepcopy(given)
                told = function(*given)
                kept = copy.deepcopy(told)
                self.assertEqual(given, before)
                if isinstance(told, list):
                    told.append("more")
                    told.reverse()
                again = function(*given)
                self.assertEqual(again, kept)
                self.assertEqual(function(*before), kept)
                if isinstance(told, list):
                    self.assertIsNot(again, told)
                    again.clear()
                    self.assertEqual(function(*given), kept)

    def test_a_ring_that_is_told_is_not_kept(self):
        told = ring(THREE)
        told.append((0, "a", "b"))
        self.assertIs(is_ring(THREE, told), False)
        self.assertIs(is_ring(THREE, ring(THREE)), True)

    def test_what_is_refused_changes_nothing(self):
        for function, given in REFUSED:
            with self.subTest(function.__name__):
                before = copy.deepcopy(given)
                for time in range(2):
                    self.assertRaises(HangError, function, *given)
                    self.assertEqual(given, before)
        for function, given in CALLS:
            told = function(*given)
            for refused, wrong in REFUSED:
                self.assertRaises(HangError, refused, *wrong)
            self.assertEqual(function(*given), told)

    def test_true_and_false_are_no_numbers(self):
        for function, given in WITH_TRUE:
            with self.subTest(function.__name__):
                self.assertRaises(HangError, function, *given)
        self.assertIs(is_ring(THREE, [AROUND[0], (True, "b", "c"), AROUND[2]]), False)

    def test_kinds(self):
        for function in (leaves, shares):
            self.assertIsInstance(function(DEEP), list)
            for leaf in function(DEEP):
                self.assertIsInstance(leaf, tuple)
        self.assertIsInstance(tips(DEEP, WEIGHTS), list)
        self.assertIsInstance(bar(BARRED), tuple)
        self.assertIsInstance(ring(THREE), list)
        for told in (turned(DEEP, "r"), longer(DEEP, "r", 3), plain(DEEP), put(DEEP, "r", A), least_turned(DEEP),
                     arms_for(DEEP, WEIGHTS), hung(A, B, WEIGHTS)):
            self.assertIsInstance(told, tuple)
        for told in (how_many_turned(DEEP), how_many_arms(DEEP, WEIGHTS)):
            self.assertIs(type(told), int)
        for told in (choices(DEEP, (1, 2, 3)), one_changed(TWICE, WEIGHTS)):
            self.assertIsInstance(told, list)
            for part in told:
                self.assertIsInstance(part, tuple)
        for told in (pull(DEEP, WEIGHTS, ""), read("(1:2 a b)"), read_weights("a=1"), read_weights("")):
            self.assertIs(type(told), tuple)
        for told in (worst(DEEP, WEIGHTS), written(DEEP), weights_text(WEIGHTS)):
            self.assertIs(type(told), str)
        for told in (bound(STILL), spare(STILL)):
            self.assertIs(type(told), list)


if __name__ == "__main__":
    unittest.main()
