"""Mobiles: their leaves, what they weigh, and which of their rods tip."""

from hangstill.errors import NoMobile, NoWay, NoWeights

LONGEST_NAME = 3
LONGEST_ARM = 9
MOST_RODS = 5
HEAVIEST = 999999


def is_number(thing, first, last):
    # Python counts True and False among the whole numbers; here they are none.
    if isinstance(thing, bool) or not isinstance(thing, int):
        return False
    return first <= thing <= last


def is_name(thing):
    if not isinstance(thing, str) or not 1 <= len(thing) <= LONGEST_NAME:
        return False
    return all(["a" <= letter <= "z" for letter in thing])


def is_mobile_within(thing, rods):
    if not isinstance(thing, tuple) or len(thing) == 0 or not isinstance(thing[0], str):
        return False
    if thing[0] == "weight":
        return len(thing) == 2 and is_name(thing[1])
    # Counted on the way down, so that what is nested without end is refused too.
    if thing[0] != "rod" or len(thing) != 5 or rods == 0:
        return False
    if not is_number(thing[1], 1, LONGEST_ARM) or not is_number(thing[2], 1, LONGEST_ARM):
        return False
    return is_mobile_within(thing[3], rods - 1) and is_mobile_within(thing[4], rods - 1)


def is_mobile(thing):
    return is_mobile_within(thing, MOST_RODS)


def check_mobile(thing):
    if not is_mobile(thing):
        raise NoMobile("this is no mobile")


def is_named_number(thing):
    if not isinstance(thing, tuple) or len(thing) != 2:
        return False
    return is_name(thing[0]) and is_number(thing[1], 1, HEAVIEST)


def is_weights(thing):
    if not isinstance(thing, tuple) or not all([is_named_number(pair) for pair in thing]):
        return False
    names = [pair[0] for pair in thing]
    return names == sorted(set(names))


def check_are_weights(thing):
    if not is_weights(thing):
        raise NoWeights("these are no weights")


def check_weights(mobile, weights):
    check_are_weights(weights)
    numbers = dict(weights)
    for way, name in leaves_below(mobile, ""):
        if name not in numbers:
            raise NoWeights(f"there is no weight for {name}")


def part_at(mobile, way):
    if not isinstance(way, str):
        return None
    part = mobile
    for sign in way:
        if part[0] == "weight" or sign not in ("l", "r"):
            return None
        part = part[3] if sign == "l" else part[4]
    return part


def rod_at(mobile, way):
    part = part_at(mobile, way)
    if part is None or part[0] == "weight":
        raise NoWay("there is no rod")
    return part


def rods_within(mobile):
    if mobile[0] == "weight":
        return 0
    return 1 + max(rods_within(mobile[3]), rods_within(mobile[4]))


def leaves_below(mobile, way):
    if mobile[0] == "weight":
        return [(way, mobile[1])]
    return leaves_below(mobile[3], way + "l") + leaves_below(mobile[4], way + "r")


def load_below(mobile, numbers):
    return sum([numbers[name] for way, name in leaves_below(mobile, "")])


def pulls(rod, numbers):
    return (rod[1] * load_below(rod[3], numbers), rod[2] * load_below(rod[4], numbers))


def tips_below(mobile, way, numbers):
    if mobile[0] == "weight":
        return []
    both = pulls(mobile, numbers)
    told = []
    if both[0] > both[1]:
        told.append((way, "left"))
    if both[0] < both[1]:
        told.append((way, "right"))
    return told + tips_below(mobile[3], way + "l", numbers) + tips_below(mobile[4], way + "r", numbers)


def leaves(mobile):
    check_mobile(mobile)
    return leaves_below(mobile, "")


def load(mobile, weights):
    check_mobile(mobile)
    check_weights(mobile, weights)
    return load_below(mobile, dict(weights))


def tips(mobile, weights):
    check_mobile(mobile)
    check_weights(mobile, weights)
    return tips_below(mobile, "", dict(weights))


def is_still(mobile, weights):
    return tips(mobile, weights) == []
