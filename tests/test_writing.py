import random
import re
import unittest

from hangstill.errors import NoMobile, NoText, NoWeights
from hangstill.writing import read, read_weights, weights_text, written

from samples import (A, B, BARRED, C, DEEP, LOOP, ODD_THINGS, TWICE, WRONG_MOBILES, WRONG_NAMES, WRONG_WEIGHTS, chain,
                     left_chain, random_mobiles, rod, told_weights, weight)

TEXTS = {
    "a": A,
    "zz": weight("zz"),
    "abc": weight("abc"),
    "(1:2 a b)": rod(1, 2, A, B),
    "(9:9 a a)": rod(9, 9, A, A),
    "(3:1 zzz ab)": rod(3, 1, weight("zzz"), weight("ab")),
    "(2:1 a (1:3 b c))": DEEP,
    "(1:2 (3:4 a b) c)": rod(1, 2, rod(3, 4, A, B), C),
    "(1:1 (2:1 a b) (1:2 b a))": TWICE,
    "(1:2 a (1:1 a b))": BARRED,
    "(1:1 f (1:1 e (1:1 d (1:1 c (1:1 b a)))))": chain(5),
    "(1:1 (1:1 (1:1 (1:1 (1:1 a b) c) d) e) f)": left_chain(5),
    "(1:2 a (3:4 (5:6 b (7:8 c (9:1 d e))) f))":
        rod(1, 2, A, rod(3, 4, rod(5, 6, B, rod(7, 8, C, rod(9, 1, weight("d"), weight("e")))), weight("f"))),
}

WEIGHTS_TEXTS = {
    "": (),
    "a=1": (("a", 1),),
    "zzz=999999": (("zzz", 999999),),
    "a=10": (("a", 10),),
    "a=100000": (("a", 100000),),
    "a=2 b=1": (("a", 2), ("b", 1)),
    "a=9 aa=9 aaa=9 ab=9 b=9": (("a", 9), ("aa", 9), ("aaa", 9), ("ab", 9), ("b", 9)),
    "b=305 c=1 cd=40 z=123456": (("b", 305), ("c", 1), ("cd", 40), ("z", 123456)),
}

NO_TEXTS = [thing for thing in ODD_THINGS if not isinstance(thing, str)]
NO_TEXTS += [A, DEEP, LOOP, ["a"], ("a",), b"a", b"(1:2 a b)", bytearray(b"a"), ["(", "1"], {"a": "b"}]

# Other figures, blanks and signs that Python takes for the plain ones here and there.
FIGURES = ["\u0661", "\u00b2", "\u2460", "\uff11", "\u0967"]
BLANKS = ["\t", "\n", "\u00a0", "\u2003", "\r", "\x0b", "\x00"]
LETTERS = ["A", "Z", "\u00e4", "\u00df", "\uff41", "\u0430", "_", "-", "1", "{", "`", "'", ".", "=", ":"]


def grammar(rods):
    if rods == 0:
        return "[a-z]{1,3}"
    part = grammar(rods - 1)
    return rf"(?:[a-z]{{1,3}}|\([1-9]:[1-9] {part} {part}\))"


MOBILE = re.compile(grammar(5))


def writes_weights(text):
    parts = text.split(" ") if text else []
    names = [part.partition("=")[0] for part in parts]
    return names == sorted(set(names)) and all([re.fullmatch("[a-z]{1,3}=[1-9][0-9]{0,5}", part) for part in parts])


def changed(chance, text, signs):
    """The text with a few signs put in, left out or exchanged."""
    for time in range(chance.randint(1, 2)):
        at = chance.randint(0, len(text))
        sort = chance.randint(0, 3)
        if sort == 0:
            text = text[:at] + chance.choice(signs) + text[at:]
        if sort == 1:
            text = text[:at] + text[at + 1:]
        if sort == 2:
            text = text[:at] + chance.choice(signs) + text[at + 1:]
        if sort == 3:
            end = at + chance.randint(1, 6)
            text = text[:at] + text[at:end] + text[at:]
    return text


def every_change(text, signs):
    """Each sign left out, twice, exchanged with the next one, and each of the signs put in and in its place."""
    told = []
    for at in range(len(text) + 1):
        told.append(text[:at] + text[at + 1:])
        told.append(text[:at] + text[at:at + 1] + text[at:])
        told.append(text[:at] + text[at + 1:at + 2] + text[at:at + 1] + text[at + 2:])
        told.append(text[:at])
        told.append(text[at:])
        for sign in signs:
            told.append(text[:at] + sign + text[at:])
            told.append(text[:at] + sign + text[at + 1:])
    return told


class Written(unittest.TestCase):
    def test_each(self):
        for text, mobile in TEXTS.items():
            self.assertEqual(written(mobile), text)
            self.assertIs(type(written(mobile)), str)

    def test_all_arms(self):
        for left in range(1, 10):
            for right in range(1, 10):
                self.assertEqual(written(rod(left, right, A, B)), f"({left}:{right} a b)")

    def test_no_mobile(self):
        for number, thing in enumerate(WRONG_MOBILES):
            with self.subTest(number=number):
                self.assertRaises(NoMobile, written, thing)
        for text in TEXTS:
            self.assertRaises(NoMobile, written, text)


class Read(unittest.TestCase):
    def no_text(self, *texts):
        for text in texts:
            with self.subTest(text=text):
                self.assertRaises(NoText, read, text)

    def test_each(self):
        for text, mobile in TEXTS.items():
            self.assertEqual(read(text), mobile)
            self.assertEqual(repr(read(text)), repr(mobile))

    def test_random_ones(self):
        for mobile in random_mobiles(111, 300, names=["a", "b", "xy", "xyz", "zzz"], rods=5, longest=9):
            text = written(mobile)
            self.assertTrue(MOBILE.fullmatch(text))
            self.assertEqual(read(text), mobile)
            self.assertEqual(text.count("("), text.count(":"))

    def test_full_ones(self):
        mobile = weight("abc")
        for rods in range(5):
            mobile = rod(9, 8, mobile, mobile)
            self.assertEqual(read(written(mobile)), mobile)

    def test_a_blank_too_many(self):
        self.no_text("(1:2  a b)", "(1:2 a  b)", "(1:2 a b )", "( 1:2 a b)", "(1 :2 a b)", "(1: 2 a b)", "(1:2 a b b)",
                     "(2:1 a (1:3 b c) )", "(2:1 a ( 1:3 b c))", "(2:1 a  (1:3 b c))")

    def test_a_blank_too_few(self):
        self.no_text("(1:2a b)", "(1:2 ab)", "(1:2ab)", "(2:1 a(1:3 b c))", "(1:2(3:4 a b) c)", "(1:2 (3:4 a b)c)")

    def test_a_blank_at_the_beginning_or_the_end(self):
        self.no_text(" ", "  ", " a", "a ", " (1:2 a b)", "(1:2 a b) ", " a ", "a b")

    def test_another_blank(self):
        for sign in BLANKS:
            self.no_text(sign, "a" + sign, sign + "a", f"(1:2{sign}a b)", f"(1:2 a{sign}b)", f"(1:2 a b){sign}",
                         f"{sign}(1:2 a b)", f"(1:2 a b{sign})", f"(1:2{sign} a b)")

    def test_arms(self):
        for arm in ["0", "10", "12", "99", "01", "00", "09", "-1", "+1", "1.", "1.0", "", " ", "a", "1_1", "x", "True",
                    "(", ":", "1:1"] + FIGURES:
            self.no_text(f"({arm}:1 a b)", f"(1:{arm} a b)", f"(2:1 a ({arm}:3 b c))", f"(2:1 a (3:{arm} b c))")

    def test_between_the_arms(self):
        for sign in ["", " ", "::", ";", "=", "/", "-", " : "]:
            self.no_text(f"(1{sign}2 a b)")

    def test_names(self):
        for name in [name for name in WRONG_NAMES if isinstance(name, str)] + ["aaaa", "abcde", "a" * 5000]:
            self.no_text(name, f"(1:2 {name} b)", f"(1:2 a {name})", f"(2:1 a (1:3 {name} c))")
        for sign in LETTERS:
            self.no_text(sign, "a" + sign, sign + "a", "ab" + sign, f"(1:2 a{sign} b)", f"(1:2 a {sign}b)",
                         f"(1:2 a b{sign})", f"(1:2 {sign} b)")

    def test_brackets(self):
        self.no_text("(", ")", "()", "(a)", "a)", "(a", "(1:2 a b", "1:2 a b)", "((1:2 a b)", "(1:2 a b))",
                     "(1:2 a b)a", "a(1:2 a b)", "((1:2 a b))", "(2:1 a 1:3 b c))", "(2:1 a (1:3 b c)",
                     "(2:1 a (1:3 b c)))", "(2:1 (a) (1:3 b c))", "(2:1 a) (1:3 b c)", "[1:2 a b]",
                     "{1:2 a b}", "(1:2 a b]", "(1:2 a b)(1:2 a b)", "(1:2 a b) (1:2 a b)")

    def test_too_few_or_too_many_parts(self):
        self.no_text("(1:2)", "(1:2 )", "(1:2 a)", "(1:2 a )", "(1:2  )", "(1:2 a b c)", "(1:2", "(1:", "(1", "(1:2 ",
                     "(1:2 a", "(1:2 a ", "(a b)", "(1 a b)", "(1:2:3 a b)", "1:2", "(1:2 (3:4 a b))")

    def test_6_rods(self):
        right = "a"
        left = "a"
        for rods in range(1, 9):
            right = f"(1:1 b {right})"
            left = f"(1:1 {left} b)"
            for text in (right, left):
                if rods <= 5:
                    self.assertEqual(written(read(text)), text)
                else:
                    self.no_text(text)
        self.no_text("(1:1 a (1:1 (1:1 a (1:1 (1:1 a (1:1 a b)) b)) b))")

    def test_brackets_without_end(self):
        for many in (6, 100, 5000, 200000):
            for text in ("(" * many, "(1:1 " * many, "(1:1 a " * many, "a)" * many,
                         "(1:1 " * many + "a" + " a)" * many):
                self.assertRaises(NoText, read, text)

    def test_other_forms(self):
        self.no_text("", "1", "a=1", "weight", "rod 1 2 a b", repr(A), repr(DEEP), "A", "(1:2 A b)", "\n", "None")

    def test_no_text_at_all(self):
        for number, thing in enumerate(NO_TEXTS):
            with self.subTest(number=number):
                self.assertRaises(NoText, read, thing)

    def test_every_change(self):
        seen = {True: 0, False: 0}
        for text in TEXTS:
            for other in every_change(text, "ab() :=019A\n" + "".join(FIGURES)):
                seen[self.judged(other)] += 1
        self.assertGreater(min(seen.values()), 100)

    def test_random_changes(self):
        chance = random.Random(112)
        seen = {True: 0, False: 0}
        for mobile in random_mobiles(113, 300, names=["a", "bc", "xyz"], rods=5, longest=9):
            for time in range(30):
                seen[self.judged(changed(chance, written(mobile), "az() :0129"))] += 1
        self.assertGreater(min(seen.values()), 500)

    def judged(self, text):
        fits = MOBILE.fullmatch(text) is not None
        if fits:
            self.assertEqual(written(read(text)), text)
        else:
            self.no_text(text)
        return fits


class WeightsText(unittest.TestCase):
    def test_each(self):
        for text, weights in WEIGHTS_TEXTS.items():
            self.assertEqual(weights_text(weights), text)
            self.assertIs(type(weights_text(weights)), str)

    def test_no_weights(self):
        for number, thing in enumerate(WRONG_WEIGHTS):
            with self.subTest(number=number):
                self.assertRaises(NoWeights, weights_text, thing)
        for text in WEIGHTS_TEXTS:
            self.assertRaises(NoWeights, weights_text, text)
        self.assertRaises(NoWeights, weights_text, list(WEIGHTS_TEXTS["a=2 b=1"]))


class ReadWeights(unittest.TestCase):
    def no_text(self, *texts):
        for text in texts:
            with self.subTest(text=text):
                self.assertRaises(NoText, read_weights, text)

    def test_each(self):
        for text, weights in WEIGHTS_TEXTS.items():
            self.assertEqual(read_weights(text), weights)
            self.assertEqual(repr(read_weights(text)), repr(weights))

    def test_random_ones(self):
        chance = random.Random(114)
        for time in range(300):
            weights = self.random_weights(chance)
            self.assertTrue(writes_weights(weights_text(weights)))
            self.assertEqual(read_weights(weights_text(weights)), weights)

    def random_weights(self, chance):
        names = chance.sample(["a", "aa", "ab", "b", "bcd", "c", "z", "zz", "zzz"], chance.randint(0, 9))
        return told_weights({name: chance.choice((1, 9, 10, 90, 999999, chance.randint(1, 999999))) for name in names})

    def test_numbers(self):
        for number in ["0", "00", "01", "007", "0999999", "1000000", "9999999", "-1", "+1", "-0", "1.0", "1.", "1e3",
                       "", "x", "1_0", "0x1", "a", "=1", "1=", "1=1", "1a", "a1", "True", "None", "(1)", "9" * 5000,
                       "1" + "0" * 5000] + FIGURES + ["1" + figure for figure in FIGURES]:
            self.no_text(f"a={number}", f"a={number} b=1", f"a=1 b={number}", f"a=1 b={number} c=1")
        for number in (1, 9, 10, 99999, 100000, 999998, 999999):
            self.assertEqual(read_weights(f"a=1 b={number}"), (("a", 1), ("b", number)))

    def test_no_number_at_all(self):
        self.no_text("a", "a b", "a=1 b", "a b=1", "=", "=1", "1", "a:1", "a 1", "a=1,b=1", "a=1;b=1")

    def test_names(self):
        for name in [name for name in WRONG_NAMES if isinstance(name, str)] + ["aaaa", "a" * 5000]:
            self.no_text(f"{name}=1", f"{name}=1 zzz=1", f"zzz=1 {name}=1")
        for sign in LETTERS:
            self.no_text(f"{sign}=1", f"a{sign}=1", f"{sign}a=1", f"a=1 b{sign}=1")

    def test_names_that_do_not_rise(self):
        self.no_text("b=1 a=1", "a=1 c=1 b=1", "aa=1 a=1", "b=1 aa=1", "c=3 b=2 a=1")

    def test_a_name_twice(self):
        self.no_text("a=1 a=1", "a=1 a=2", "a=2 a=1", "a=1 b=1 b=1", "a=1 b=1 a=1")

    def test_blanks(self):
        self.no_text(" ", "  ", " a=1", "a=1 ", "a=1  b=1", " a=1 b=1", "a=1 b=1 ", "a =1", "a= 1", "a=1 b =1",
                     "a=1 b= 1", "a=1b=1", "a=1 b=1  c=1")
        for sign in BLANKS:
            self.no_text(sign, f"a=1{sign}", f"{sign}a=1", f"a=1{sign}b=1", f"a={sign}1", f"a{sign}=1",
                         f"a=1 {sign}b=1")

    def test_other_forms(self):
        self.no_text("(1:2 a b)", "(('a', 1),)", "()", "a=1)", "(a=1", "\n", "{}", "A=1")

    def test_no_text_at_all(self):
        for number, thing in enumerate(NO_TEXTS + [(("a", 1),)]):
            with self.subTest(number=number):
                self.assertRaises(NoText, read_weights, thing)

    def test_every_change(self):
        seen = {True: 0, False: 0}
        for text in WEIGHTS_TEXTS:
            for other in every_change(text, "abz =019A\n-" + "".join(FIGURES)):
                seen[self.judged(other)] += 1
        self.assertGreater(min(seen.values()), 100)

    def test_random_changes(self):
        chance = random.Random(115)
        seen = {True: 0, False: 0}
        for time in range(5000):
            seen[self.judged(changed(chance, weights_text(self.random_weights(chance)), "abz =0199"))] += 1
        self.assertGreater(min(seen.values()), 300)

    def judged(self, text):
        fits = writes_weights(text)
        if fits:
            self.assertEqual(weights_text(read_weights(text)), text)
        else:
            self.no_text(text)
        return fits


if __name__ == "__main__":
    unittest.main()
