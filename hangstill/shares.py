"""Shares: which part of all its weight each leaf of a mobile has, if this hangs still."""

from hangstill.errors import Never
from hangstill.mobiles import check_mobile
from hangstill.ratios import least_whole, product


def shares_below(mobile, way, share):
    if mobile[0] == "weight":
        return [(way, mobile[1], share)]
    both = mobile[1] + mobile[2]
    # The longer an arm, the less hangs there: each side goes by the arm of the other one.
    left = product(share, (mobile[2], both))
    right = product(share, (mobile[1], both))
    return shares_below(mobile[3], way + "l", left) + shares_below(mobile[4], way + "r", right)


def name_shares(mobile):
    # Only where nothing bars the mobile: then any leaf of a name has the share of all of them.
    return dict([(name, share) for way, name, share in shares(mobile)])


def least_weights(fractions):
    names = sorted(fractions)
    return tuple(zip(names, least_whole([fractions[name] for name in names])))


def shares(mobile):
    check_mobile(mobile)
    return shares_below(mobile, "", (1, 1))


def bar(mobile):
    first = {}
    for way, name, share in shares(mobile):
        if name not in first:
            first[name] = (way, share)
        elif first[name][1] != share:
            return (first[name][0], way)
    return None


def least(mobile):
    if bar(mobile) is not None:
        raise Never("this mobile can not hang still")
    return least_weights(name_shares(mobile))


def alike(one, other):
    one_barred = bar(one) is not None
    other_barred = bar(other) is not None
    if one_barred or other_barred:
        return one_barred == other_barred
    weights = least(one)
    others = least(other)
    # A mobile of one name hangs still by any weights, so its name does not matter.
    if len(weights) == 1 and len(others) == 1:
        return True
    return weights == others
