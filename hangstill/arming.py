"""Arming: the arms by which a mobile hangs still with told weights."""

from hangstill.deeds import still_arms, still_rod
from hangstill.mobiles import LONGEST_ARM, check_mobile, check_weights


def armed_below(mobile, numbers):
    if mobile[0] == "weight":
        return mobile
    return still_rod(armed_below(mobile[3], numbers), armed_below(mobile[4], numbers), numbers)


def arms_below(mobile, numbers):
    if mobile[0] == "weight":
        return 1
    # By the weights one arm is to the other as in the shortest ones: all others are these so many times as long.
    many = LONGEST_ARM // max(still_arms(mobile[3], mobile[4], numbers))
    return many * arms_below(mobile[3], numbers) * arms_below(mobile[4], numbers)


def arms_for(mobile, weights):
    check_mobile(mobile)
    check_weights(mobile, weights)
    return armed_below(mobile, dict(weights))


def how_many_arms(mobile, weights):
    check_mobile(mobile)
    check_weights(mobile, weights)
    return arms_below(mobile, dict(weights))
