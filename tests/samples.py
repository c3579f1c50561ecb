"""Mobiles to test with, and things that are none."""

import random
from fractions import Fraction
from math import gcd
from unittest.mock import ANY


def weight(name):
    return ("weight", name)


def rod(left, right, one, other):
    return ("rod", left, right, one, other)


A = weight("a")
B = weight("b")
C = weight("c")
D = weight("d")

# a hangs at "l", b at "rl", c at "rr".
DEEP = rod(2, 1, A, rod(1, 3, B, C))
# The leaves of a have the shares 2/3 and 1/6: they bar it.
BARRED = rod(1, 2, A, rod(1, 1, A, B))
# Both names once, or several times with one share.
TWICE = rod(1, 1, rod(2, 1, A, B), rod(1, 2, B, A))


def chain(rods):
    """So many rods, one within another, down the right arms."""
    mobile = A
    for at in range(rods):
        mobile = rod(1, 1, weight("bcdefgh"[at]), mobile)
    return mobile


def left_chain(rods):
    mobile = A
    for at in range(rods):
        mobile = rod(1, 1, mobile, weight("bcdefgh"[at]))
    return mobile


class Strange:
    """Equal to everything, and not fit as a key."""

    __hash__ = None

    def __eq__(self, other):
        return True


ODD_THINGS = [
    None, True, False, 0, 1, -1, 10 ** 30, "", "a", "weight", "rod", "l", (), [], {}, set(), frozenset(),
    b"", b"weight", range(3), object(), Strange(), ANY, len, int, ValueError, ((),), [[]], {"a": 1}, (None,),
    ("a",), (1, 2), (True, "a"), ({}, []), ([],), iter([]),
]

LOOP = ["weight"]
LOOP.append(LOOP)

WRONG_NAMES = ["", "abcd", "A", "aB", "a1", "1", "a b", " a", "a ", "a\n", "\u00e4", "\u00df", "a_", "{", "`", "a-",
               None, 1, True, b"a", ["a"], ("a",), ANY, Strange()]
WRONG_ARMS = [0, 10, -1, 100, True, False, None, "1", (1,), [1], b"1", Strange()]

WRONG_MOBILES = ODD_THINGS + [LOOP] + [weight(name) for name in WRONG_NAMES]
WRONG_MOBILES += [rod(arm, 1, A, B) for arm in WRONG_ARMS] + [rod(1, arm, A, B) for arm in WRONG_ARMS]
WRONG_MOBILES += [
    chain(6), left_chain(6), chain(7), rod(1, 1, A, chain(5)), rod(1, 1, chain(5), A),
    ["weight", "a"], ["rod", 1, 1, A, B], rod(1, 1, ["weight", "a"], B), rod(1, 1, A, ["weight", "b"]),
    rod(1, 1, A, list(rod(1, 1, A, B))),
    ("weight",), ("weight", "a", "b"), ("weight", "a", 1), ("rod",), ("rod", 1, 1, A), ("rod", 1, 1, A, B, C),
    ("rod", 1, A, B), ("rod", A, B, 1, 1), ("rod", "a"), ("weight", 1, 1, A, B), ("Rod", 1, 1, A, B),
    ("stick", 1, 1, A, B), ("Weight", "a"), ("rods", 1, 1, A, B), (b"weight", "a"), (ANY, "a"), (Strange(), "a"),
    (ANY, 1, 1, A, B), (None, "a"), (("weight",), "a"),
    rod(1, 1, A, None), rod(1, 1, "a", "b"), rod(1, 1, A, ()), rod(1, 1, A, rod(1, 0, B, C)),
    rod(1, 1, rod(True, 1, A, B), C), rod(1, 1, rod(1, 1, A, weight("")), C), {"weight": "a"},
]


def with_name(name):
    """Wrong by this name alone, where it is a text: it stands where it rises."""
    told = [("a", 1), ("b", 1), ("c", 1), (name, 1)]
    return tuple(sorted(told)) if isinstance(name, str) else tuple(told)


WRONG_WEIGHTS = [thing for thing in ODD_THINGS if not isinstance(thing, tuple) or thing != ()]
WRONG_WEIGHTS += [with_name(name) for name in WRONG_NAMES]
WRONG_WEIGHTS += [
    (("a", number), ("b", 1), ("c", 1))
    for number in [0, 1000000, -1, True, False, None, "1", (1,), [1], (1, 1), 10 ** 20, Strange()]
]
WRONG_WEIGHTS += [
    (("b", 1), ("a", 1), ("c", 1)), (("a", 1), ("c", 1), ("b", 1)), (("a", 1), ("a", 1), ("b", 1), ("c", 1)),
    (("a", 1), ("a", 2), ("b", 1), ("c", 1)), (("a", 2), ("a", 1), ("b", 1), ("c", 1)),
    (("a", 1), ("b", 1), ("c", 1), ("c", 1)), (("aa", 1), ("a", 1), ("b", 1), ("c", 1)),
    [("a", 1), ("b", 1), ("c", 1)], (["a", 1], ["b", 1], ["c", 1]), (("a", 1), ["b", 1], ("c", 1)),
    (("a",), ("b", 1), ("c", 1)), (("a", 1, 1), ("b", 1), ("c", 1)), (("a", 1), ("b", 1), ("c", 1), ()),
    (("a", 1), ("b", 1), ("c", 1), None), (("a", 1), ("b", 1), ("c", 1), "d"), ((1, "a"), (1, "b"), (1, "c")),
    ("a", 1), {"a": 1, "b": 1, "c": 1}, {("a", 1), ("b", 1), ("c", 1)},
]


# Nowhere in any mobile is there anything at these.
WRONG_WAYS = [thing for thing in ODD_THINGS if not isinstance(thing, str)]
WRONG_WAYS += ["a", "weight", "L", "R", "lL", "x", " ", "l ", " l", "l\n", "\n", "0", "1", "l,r", "left", "\u00e4",
               "llllll", "rrrrrr", "lrlrlr", "l" * 5000, b"l", b"r", ["l"], ("l",), {"l"}, ["l", "r"], ("r", "l"), [],
               ("",), 3, 4, LOOP]


def random_mobile(chance, names, rods, longest=9):
    if rods == 0 or chance.random() < 0.25:
        return weight(chance.choice(names))
    return rod(chance.randint(1, longest), chance.randint(1, longest),
               random_mobile(chance, names, rods - 1, longest), random_mobile(chance, names, rods - 1, longest))


def random_mobiles(seed, how_many, names="abcd", rods=4, longest=3):
    chance = random.Random(seed)
    return [random_mobile(chance, names, chance.randint(0, rods), longest) for number in range(how_many)]


def fitting_mobile(chance, numbers, rods):
    """A mobile that hangs still by these numbers; what does not fit arms up to 9 is left out."""
    if rods == 0 or chance.random() < 0.2:
        return weight(chance.choice(sorted(numbers)))
    one = fitting_mobile(chance, numbers, rods - 1)
    other = fitting_mobile(chance, numbers, rods - 1)
    left = weighs(one, numbers)
    right = weighs(other, numbers)
    divisor = gcd(left, right)
    if max(left, right) // divisor > 9:
        return one
    return rod(right // divisor, left // divisor, one, other)


def weighs(mobile, numbers):
    if mobile[0] == "weight":
        return numbers[mobile[1]]
    return weighs(mobile[3], numbers) + weighs(mobile[4], numbers)


def stays(mobile, numbers):
    """Whether it hangs still, by numbers of any size and by fractions."""
    if mobile[0] == "weight":
        return True
    if mobile[1] * weighs(mobile[3], numbers) != mobile[2] * weighs(mobile[4], numbers):
        return False
    return stays(mobile[3], numbers) and stays(mobile[4], numbers)


def names_of(mobile):
    if mobile[0] == "weight":
        return {mobile[1]}
    return names_of(mobile[3]) | names_of(mobile[4])


def at_way(mobile, way):
    for sign in way:
        mobile = mobile[3] if sign == "l" else mobile[4]
    return mobile


def rod_ways(mobile, way=""):
    if mobile[0] == "weight":
        return []
    return [way] + rod_ways(mobile[3], way + "l") + rod_ways(mobile[4], way + "r")


def leaf_ways(mobile, way=""):
    if mobile[0] == "weight":
        return [way]
    return leaf_ways(mobile[3], way + "l") + leaf_ways(mobile[4], way + "r")


def depth(mobile):
    return max(len(way) for way in leaf_ways(mobile))


def with_arms(mobile, arms):
    """The mobile with the next two of these as arms of each rod, in the order of rod_ways."""
    if mobile[0] == "weight":
        return mobile
    left = next(arms)
    right = next(arms)
    one = with_arms(mobile[3], arms)
    return rod(left, right, one, with_arms(mobile[4], arms))


def told_weights(numbers):
    return tuple(sorted(numbers.items()))


def rods_of(mobile):
    """Each rod as what must come to nothing: a dict of names and how often each counts."""
    if mobile[0] == "weight":
        return []
    row = {}
    for arm, part in ((mobile[1], mobile[3]), (-mobile[2], mobile[4])):
        for name in all_leaves(part):
            row[name] = row.get(name, 0) + arm
    return [row] + rods_of(mobile[3]) + rods_of(mobile[4])


def all_leaves(mobile):
    if mobile[0] == "weight":
        return [mobile[1]]
    return all_leaves(mobile[3]) + all_leaves(mobile[4])


def rank(rows):
    rows = [{name: Fraction(number) for name, number in row.items() if number} for row in rows]
    rows = [row for row in rows if row]
    found = 0
    while rows:
        first = rows.pop()
        name = min(first)
        found += 1
        left = []
        for row in rows:
            times = row.get(name, Fraction(0)) / first[name]
            row = {key: row.get(key, 0) - times * first.get(key, 0) for key in set(row) | set(first)}
            row = {key: number for key, number in row.items() if number}
            if row:
                left.append(row)
        rows = left
    return found


def groups_of(hall):
    """The names that hang together, as a list of sets."""
    told = []
    for mobile in hall:
        names = names_of(mobile)
        for group in [group for group in told if group & names]:
            told.remove(group)
            names = names | group
        told.append(names)
    return told


def can_hang(hall):
    """By the rods alone: each group of names has weights just if one number is left free there.

    Where two leaves, or two mobiles, bar one another all names of their group come to nothing.
    """
    names = set().union(*[names_of(mobile) for mobile in hall])
    rows = [row for mobile in hall for row in rods_of(mobile)]
    return len(names) - rank(rows) == len(groups_of(hall))


def random_halls(seed, how_many, names, rods=2, longest=2):
    """Halls of mobiles with whatever arms: some can hang still together, some can not."""
    chance = random.Random(seed)
    told = []
    for number in range(how_many):
        mobiles = random_mobiles(f"{seed} {number}", 30, names, rods, longest)
        mobiles = [mobile for mobile in mobiles if can_hang((mobile,))]
        told.append(tuple(mobiles[:chance.randint(1, 6)]))
    return told


def fitting_halls(seed, how_many):
    """Halls that can hang still together, with weights by which they do."""
    chance = random.Random(seed)
    told = []
    for number in range(how_many):
        numbers = {name: chance.choice((1, 2, 3, 4, 6, 9, 12)) for name in "abcdefgh"}
        hall = tuple([fitting_mobile(chance, numbers, 3) for place in range(chance.randint(1, 6))])
        told.append((hall, numbers))
    return told
