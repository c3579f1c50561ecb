"""Shapes: which mobiles become one another by turning rods."""

from hangstill.deeds import turned_rod
from hangstill.mobiles import check_mobile


def least_below(mobile):
    if mobile[0] == "weight":
        return mobile
    # Both sides are turned apart from one another, so the least of each makes the least of both.
    rod = ("rod", mobile[1], mobile[2], least_below(mobile[3]), least_below(mobile[4]))
    return min(rod, turned_rod(rod))


def turned_below(mobile):
    if mobile[0] == "weight":
        return 1
    many = turned_below(mobile[3]) * turned_below(mobile[4])
    # Here what the turned rod tells is told already by turning rods of its sides.
    if mobile[1] == mobile[2] and least_below(mobile[3]) == least_below(mobile[4]):
        return many
    return 2 * many


def least_turned(mobile):
    check_mobile(mobile)
    return least_below(mobile)


def how_many_turned(mobile):
    check_mobile(mobile)
    return turned_below(mobile)


def same_shape(one, other):
    check_mobile(one)
    check_mobile(other)
    return least_below(one) == least_below(other)
