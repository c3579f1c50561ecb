"""Deeds: a mobile turned, longer, plain, with something put in it, and two hung on one rod."""

from hangstill.errors import NoNumber, NoWay, TooDeep, TooLong
from hangstill.mobiles import LONGEST_ARM, MOST_RODS, check_mobile, check_weights, is_number, load_below
from hangstill.mobiles import part_at, rod_at, rods_within
from hangstill.ratios import reduced


def with_part(mobile, way, part):
    if way == "":
        return part
    if way[0] == "l":
        return ("rod", mobile[1], mobile[2], with_part(mobile[3], way[1:], part), mobile[4])
    return ("rod", mobile[1], mobile[2], mobile[3], with_part(mobile[4], way[1:], part))


def turned_rod(rod):
    return ("rod", rod[2], rod[1], rod[4], rod[3])


def plain_below(mobile):
    if mobile[0] == "weight":
        return mobile
    arms = reduced(mobile[1], mobile[2])
    return ("rod", arms[0], arms[1], plain_below(mobile[3]), plain_below(mobile[4]))


def still_arms(one, other, numbers):
    # The heavier a side, the shorter its arm: each arm goes by what hangs at the other one.
    return reduced(load_below(other, numbers), load_below(one, numbers))


def still_rod(one, other, numbers):
    arms = still_arms(one, other, numbers)
    if max(arms) > LONGEST_ARM:
        raise TooLong("an arm would be longer than 9")
    return ("rod", arms[0], arms[1], one, other)


def turned(mobile, way):
    check_mobile(mobile)
    return with_part(mobile, way, turned_rod(rod_at(mobile, way)))


def longer(mobile, way, many):
    check_mobile(mobile)
    rod = rod_at(mobile, way)
    if not is_number(many, 1, LONGEST_ARM):
        raise NoNumber("this is no whole number from 1 to 9")
    left = rod[1] * many
    right = rod[2] * many
    if max(left, right) > LONGEST_ARM:
        raise TooLong("an arm would be longer than 9")
    return with_part(mobile, way, ("rod", left, right, rod[3], rod[4]))


def plain(mobile):
    check_mobile(mobile)
    return plain_below(mobile)


def put(mobile, way, part):
    check_mobile(mobile)
    if part_at(mobile, way) is None:
        raise NoWay("there is nothing")
    check_mobile(part)
    if len(way) + rods_within(part) > MOST_RODS:
        raise TooDeep("there would be more than 5 rods within one another")
    return with_part(mobile, way, part)


def hung(one, other, weights):
    check_mobile(one)
    check_mobile(other)
    check_weights(one, weights)
    check_weights(other, weights)
    rod = still_rod(one, other, dict(weights))
    if rods_within(rod) > MOST_RODS:
        raise TooDeep("there would be more than 5 rods within one another")
    return rod
