import copy
import random
import unittest

from hangstill.benches import Bench
from hangstill.deeds import longer, plain, put, turned
from hangstill.errors import HangError, NoMobile, NoNumber, NoWay, Nothing, TooDeep, TooLong

from samples import (A, B, C, D, DEEP, TWICE, WRONG_MOBILES, WRONG_WAYS, Strange, chain, leaf_ways, left_chain,
                     random_mobiles, rod, rod_ways, weight)

LONG = rod(6, 4, A, rod(3, 9, B, C))
WRONG_MANY = [0, 10, -1, 100, True, False, None, "2", "", (2,), [2], b"2", Strange(), 10 ** 30]


def told_by(bench):
    return (bench.now(), bench.deeds())


def way_through(bench):
    """All that undo and again would tell, from here on; the bench is left as it was."""
    back = 0
    told = [told_by(bench)]
    while bench.deeds() > 0:
        bench.undo()
        told.append(told_by(bench))
        back += 1
    for time in range(back):
        bench.again()
    forth = 0
    while True:
        try:
            bench.again()
        except Nothing:
            break
        told.append(told_by(bench))
        forth += 1
    for time in range(forth):
        bench.undo()
    return told


class Told:
    """A bench by the document's words: the list of deeds, and how many of them are not taken back."""

    def __init__(self, mobile):
        self.first = mobile
        self.list = []
        self.done = 0

    def do(self, deed, given):
        deed(self.now(), *given)
        self.list = self.list[:self.done] + [(deed, given)]
        self.done += 1

    def now(self):
        mobile = self.first
        for deed, given in self.list[:self.done]:
            mobile = deed(mobile, *given)
        return mobile


class Deeds(unittest.TestCase):
    def test_ahead_of_any_deed(self):
        for mobile in (A, DEEP, TWICE, chain(5), left_chain(5)):
            self.assertEqual(told_by(Bench(mobile)), (mobile, 0))
            self.assertEqual(told_by(Bench(mobile=mobile)), (mobile, 0))

    def test_turn(self):
        bench = Bench(DEEP)
        self.assertIsNone(bench.turn("r"))
        self.assertEqual(told_by(bench), (rod(2, 1, A, rod(3, 1, C, B)), 1))
        self.assertIsNone(bench.turn(""))
        self.assertEqual(told_by(bench), (rod(1, 2, rod(3, 1, C, B), A), 2))
        # What lay right lies left now.
        self.assertIsNone(bench.turn(way="l"))
        self.assertEqual(told_by(bench), (rod(1, 2, rod(1, 3, B, C), A), 3))

    def test_stretch(self):
        bench = Bench(DEEP)
        self.assertIsNone(bench.stretch("r", 3))
        self.assertEqual(told_by(bench), (rod(2, 1, A, rod(3, 9, B, C)), 1))
        self.assertIsNone(bench.stretch("", 2))
        self.assertIsNone(bench.stretch(way="", many=2))
        self.assertEqual(told_by(bench), (rod(8, 4, A, rod(3, 9, B, C)), 3))

    def test_hang(self):
        bench = Bench(DEEP)
        self.assertIsNone(bench.hang("r", D))
        self.assertEqual(told_by(bench), (rod(2, 1, A, D), 1))
        self.assertIsNone(bench.hang("l", DEEP))
        self.assertEqual(told_by(bench), (rod(2, 1, DEEP, D), 2))
        self.assertIsNone(bench.hang(way="", part=A))
        self.assertEqual(told_by(bench), (A, 3))

    def test_shorten(self):
        bench = Bench(LONG)
        self.assertIsNone(bench.shorten())
        self.assertEqual(told_by(bench), (rod(3, 2, A, rod(1, 3, B, C)), 1))

    def test_one_behind_another(self):
        bench = Bench(LONG)
        bench.shorten()
        bench.turn("r")
        bench.stretch("", 3)
        bench.hang("rl", rod(1, 1, D, D))
        self.assertEqual(told_by(bench), (rod(9, 6, A, rod(3, 1, rod(1, 1, D, D), B)), 4))

    def test_a_deed_that_leaves_the_mobile_as_it_was(self):
        same = rod(1, 1, A, A)
        bench = Bench(same)
        for deed in (lambda: bench.turn(""), lambda: bench.stretch("", 1), lambda: bench.hang("l", A),
                     lambda: bench.hang("", same), bench.shorten):
            before = bench.deeds()
            deed()
            self.assertEqual(told_by(bench), (same, before + 1))
        for deeds in (4, 3, 2, 1, 0):
            bench.undo()
            self.assertEqual(told_by(bench), (same, deeds))
        self.assertRaises(Nothing, bench.undo)
        bench.again()
        self.assertEqual(bench.deeds(), 1)
        # It counts as another deed too: nothing is left to be done again.
        bench.turn("")
        self.assertRaises(Nothing, bench.again)
        self.assertEqual(bench.deeds(), 2)

    def test_a_weight_alone(self):
        bench = Bench(A)
        bench.shorten()
        bench.hang("", B)
        self.assertEqual(told_by(bench), (B, 2))
        self.assertRaises(NoWay, bench.turn, "")
        self.assertRaises(NoWay, bench.stretch, "", 1)
        self.assertEqual(told_by(bench), (B, 2))

    def test_each_deed_as_the_function_tells(self):
        for mobile in random_mobiles(101, 60, rods=4):
            for way in rod_ways(mobile):
                self.assertEqual(done(mobile, "turn", way), turned(mobile, way))
                self.assertEqual(done(mobile, "stretch", way, 3), longer(mobile, way, 3))
            for way in rod_ways(mobile) + leaf_ways(mobile):
                self.assertEqual(done(mobile, "hang", way, rod(7, 5, A, D)), put(mobile, way, rod(7, 5, A, D)))
            self.assertEqual(done(mobile, "shorten"), plain(mobile))


def done(mobile, method, *given):
    bench = Bench(mobile)
    getattr(bench, method)(*given)
    return bench.now()


class UndoAndAgain(unittest.TestCase):
    def bench(self):
        """Three deeds; what is told ahead of them and behind each."""
        bench = Bench(LONG)
        told = [bench.now()]
        for deed in (bench.shorten, lambda: bench.turn("r"), lambda: bench.hang("l", D)):
            deed()
            told.append(bench.now())
        self.assertEqual(len(set(told)), 4)
        return bench, told

    def test_undo_ahead_of_any_deed(self):
        bench = Bench(DEEP)
        self.assertRaises(Nothing, bench.undo)
        self.assertEqual(told_by(bench), (DEEP, 0))

    def test_again_ahead_of_any_deed(self):
        bench = Bench(DEEP)
        self.assertRaises(Nothing, bench.again)
        bench.turn("")
        self.assertRaises(Nothing, bench.again)
        self.assertEqual(told_by(bench), (turned(DEEP, ""), 1))

    def test_undo_each(self):
        bench, told = self.bench()
        for deeds in (2, 1, 0):
            self.assertIsNone(bench.undo())
            self.assertEqual(told_by(bench), (told[deeds], deeds))

    def test_one_too_many(self):
        bench, told = self.bench()
        for time in range(3):
            bench.undo()
        for time in range(2):
            self.assertRaises(Nothing, bench.undo)
            self.assertEqual(told_by(bench), (told[0], 0))
        for deeds in (1, 2, 3):
            self.assertIsNone(bench.again())
            self.assertEqual(told_by(bench), (told[deeds], deeds))
        for time in range(2):
            self.assertRaises(Nothing, bench.again)
            self.assertEqual(told_by(bench), (told[3], 3))
        bench.undo()
        self.assertEqual(told_by(bench), (told[2], 2))

    def test_the_last_one_taken_back_is_done_again_first(self):
        bench, told = self.bench()
        bench.undo()
        bench.undo()
        bench.again()
        self.assertEqual(told_by(bench), (told[2], 2))
        bench.undo()
        bench.undo()
        bench.again()
        self.assertEqual(told_by(bench), (told[1], 1))
        bench.again()
        bench.again()
        self.assertEqual(told_by(bench), (told[3], 3))

    def test_again_behind_another_deed(self):
        for deed in (lambda bench: bench.turn(""), lambda bench: bench.stretch("", 2), lambda bench: bench.hang("l", B),
                     lambda bench: bench.shorten()):
            for back in (1, 2):
                bench, told = self.bench()
                for time in range(back):
                    bench.undo()
                deed(bench)
                self.assertRaises(Nothing, bench.again)
                self.assertEqual(bench.deeds(), 4 - back)
                bench.undo()
                self.assertEqual(told_by(bench), (told[3 - back], 3 - back))
                # Only the other deed can be done again now.
                bench.again()
                self.assertRaises(Nothing, bench.again)
                self.assertEqual(bench.deeds(), 4 - back)

    def test_the_same_deed_done_anew(self):
        bench, told = self.bench()
        bench.undo()
        bench.undo()
        bench.turn("r")
        self.assertEqual(told_by(bench), (told[2], 2))
        self.assertRaises(Nothing, bench.again)

    def test_now_and_deeds_change_nothing(self):
        bench, told = self.bench()
        bench.undo()
        for time in range(3):
            self.assertEqual(told_by(bench), (told[2], 2))
        bench.again()
        self.assertEqual(told_by(bench), (told[3], 3))

    def test_many_deeds(self):
        bench = Bench(rod(1, 2, A, B))
        for time in range(3001):
            bench.turn("")
        self.assertEqual(told_by(bench), (rod(2, 1, B, A), 3001))
        for time in range(3000):
            bench.undo()
        self.assertEqual(told_by(bench), (rod(2, 1, B, A), 1))
        bench.undo()
        self.assertEqual(told_by(bench), (rod(1, 2, A, B), 0))
        for time in range(3001):
            bench.again()
        self.assertEqual(told_by(bench), (rod(2, 1, B, A), 3001))

    def test_any_order(self):
        chance = random.Random(102)
        refusals = 0
        for number, mobile in enumerate(random_mobiles(103, 80, rods=4)):
            bench = Bench(mobile)
            told = Told(mobile)
            for time in range(60):
                refusals += self.one_call(chance, bench, told)
                self.assertEqual(told_by(bench), (told.now(), told.done))
        self.assertGreater(refusals, 100)

    def one_call(self, chance, bench, told):
        way = chance.choice(["", "l", "r", "ll", "lr", "rl", "rr", "lll", "rrr"])
        part = chance.choice([A, D, DEEP, chain(3), chain(4)])
        many = chance.randint(1, 3)
        sort = chance.choice(["turn", "stretch", "hang", "shorten", "undo", "undo", "undo", "again", "again", "again"])
        if sort == "undo" or sort == "again":
            step = -1 if sort == "undo" else 1
            if not 0 <= told.done + step <= len(told.list):
                self.assertRaises(Nothing, getattr(bench, sort))
                return 1
            getattr(bench, sort)()
            told.done += step
            return 0
        deed, given = {"turn": (turned, (way,)), "stretch": (longer, (way, many)), "hang": (put, (way, part)),
                       "shorten": (plain, ())}[sort]
        try:
            told.do(deed, given)
        except HangError as error:
            self.assertRaises(error.__class__, getattr(bench, sort), *given)
            return 1
        getattr(bench, sort)(*given)
        return 0


class Refused(unittest.TestCase):
    def bench(self):
        """Two deeds done, two taken back."""
        bench = Bench(rod(2, 1, A, rod(1, 4, B, C)))
        bench.turn("r")
        bench.hang("l", D)
        bench.turn("")
        bench.shorten()
        bench.undo()
        bench.undo()
        return bench

    def setUp(self):
        self.kept = self.bench()
        self.way = way_through(self.kept)
        self.assertEqual(len(self.way), 5)
        self.assertEqual(self.kept.now(), rod(2, 1, D, rod(4, 1, C, B)))

    def refused(self, error, method, *given):
        self.assertRaises(error, getattr(self.kept, method), *given)
        self.assertEqual(told_by(self.kept), self.way[0])

    def tearDown(self):
        self.assertEqual(way_through(self.kept), self.way)

    def test_turn(self):
        for way in WRONG_WAYS + ["l", "rl", "rr", "ll", "rll"]:
            self.refused(NoWay, "turn", way)

    def test_stretch(self):
        for way in WRONG_WAYS + ["l", "rl", "rr", "ll", "rll"]:
            for many in [2, 5] + WRONG_MANY:
                self.refused(NoWay, "stretch", way, many)
        for many in WRONG_MANY:
            self.refused(NoNumber, "stretch", "", many)
            self.refused(NoNumber, "stretch", "r", many)
        for way, many in (("", 5), ("", 9), ("r", 3), ("r", 9)):
            self.refused(TooLong, "stretch", way, many)

    def test_hang(self):
        for way in WRONG_WAYS + ["ll", "lr", "rll", "rlr", "rrl", "rrr"]:
            for part in (A, chain(5), None, chain(6), Strange()):
                self.refused(NoWay, "hang", way, part)
        for part in WRONG_MOBILES:
            for way in ("", "l", "r", "rl"):
                self.refused(NoMobile, "hang", way, part)
        for way, rods in (("l", 5), ("r", 5), ("rl", 4), ("rr", 5)):
            self.refused(TooDeep, "hang", way, chain(rods))
            self.refused(TooDeep, "hang", way, left_chain(rods))

    def test_each_at_any_time(self):
        for calls in ("", "u", "uu", "uua", "ua", "a", "aa", "aau"):
            bench = self.bench()
            for sign in calls:
                bench.undo() if sign == "u" else bench.again()
            before = way_through(bench)
            self.assertRaises(NoWay, bench.turn, "lll")
            self.assertRaises(NoWay, bench.stretch, "lll", 0)
            self.assertRaises(NoNumber, bench.stretch, "", 0)
            self.assertRaises(TooLong, bench.stretch, "", 9)
            self.assertRaises(NoWay, bench.hang, "lll", None)
            self.assertRaises(NoMobile, bench.hang, "l", None)
            self.assertRaises(TooDeep, bench.hang, "l", chain(5))
            self.assertEqual(way_through(bench), before)

    def test_nothing_to_take_back_or_do_again(self):
        bench = self.bench()
        bench.undo()
        bench.undo()
        before = way_through(bench)
        self.assertRaises(Nothing, bench.undo)
        self.assertEqual(way_through(bench), before)
        for time in range(4):
            bench.again()
        before = way_through(bench)
        self.assertRaises(Nothing, bench.again)
        self.assertEqual(way_through(bench), before)

    def test_what_is_handed_in_is_not_changed(self):
        part = ["rod", 1, 1, A, B]
        self.refused(NoMobile, "hang", "l", part)
        self.assertEqual(part, ["rod", 1, 1, A, B])
        many = [2]
        self.refused(NoNumber, "stretch", "", many)
        self.assertEqual(many, [2])
        way = ["r"]
        self.refused(NoWay, "turn", way)
        self.assertEqual(way, ["r"])


class Benches(unittest.TestCase):
    def test_no_mobile(self):
        for number, thing in enumerate(WRONG_MOBILES):
            with self.subTest(number=number):
                self.assertRaises(NoMobile, Bench, thing)

    def test_two_of_one_mobile(self):
        mobile = rod(2, 4, A, rod(1, 3, B, C))
        kept = copy.deepcopy(mobile)
        one = Bench(mobile)
        other = Bench(mobile)
        one.turn("r")
        one.shorten()
        self.assertEqual(told_by(other), (mobile, 0))
        self.assertRaises(Nothing, other.undo)
        other.hang("l", D)
        other.undo()
        self.assertRaises(Nothing, one.again)
        self.assertEqual(told_by(one), (rod(1, 2, A, rod(3, 1, C, B)), 2))
        one.undo()
        other.turn("")
        one.again()
        self.assertEqual(told_by(one), (rod(1, 2, A, rod(3, 1, C, B)), 2))
        self.assertEqual(told_by(other), (rod(4, 2, rod(1, 3, B, C), A), 1))
        self.assertEqual(mobile, kept)

    def test_what_now_told_stays(self):
        bench = Bench(DEEP)
        first = bench.now()
        bench.turn("")
        second = bench.now()
        bench.stretch("", 2)
        self.assertEqual((first, second), (DEEP, turned(DEEP, "")))

    def test_from_what_now_told(self):
        one = Bench(DEEP)
        one.turn("")
        other = Bench(one.now())
        self.assertEqual(told_by(other), (turned(DEEP, ""), 0))
        self.assertRaises(Nothing, other.undo)
        other.hang("", weight("z"))
        self.assertEqual(told_by(one), (turned(DEEP, ""), 1))

    def test_the_same_calls_tell_the_same(self):
        for time in range(2):
            benches = [Bench(copy.deepcopy(LONG)) for number in range(2)]
            for bench in benches:
                bench.shorten()
                bench.turn("")
                bench.undo()
                bench.stretch("r", 2)
                self.assertRaises(NoWay, bench.turn, "l" * 6)
            self.assertEqual(way_through(benches[0]), way_through(benches[1]))

    def test_kinds(self):
        bench = Bench(LONG)
        bench.turn("")
        self.assertIsInstance(bench.now(), tuple)
        self.assertIs(type(bench.deeds()), int)


if __name__ == "__main__":
    unittest.main()
