"""Fractions: tuples of two whole numbers from 1 on, as small as can be."""


def greatest_divisor(one, other):
    while other > 0:
        rest = one % other
        one = other
        other = rest
    return one


def reduced(top, bottom):
    divisor = greatest_divisor(top, bottom)
    return (top // divisor, bottom // divisor)


def product(one, other):
    return reduced(one[0] * other[0], one[1] * other[1])


def quotient(one, other):
    return reduced(one[0] * other[1], one[1] * other[0])


def least_whole(fractions):
    bottom = 1
    for fraction in fractions:
        bottom = bottom * fraction[1] // greatest_divisor(bottom, fraction[1])
    numbers = [fraction[0] * (bottom // fraction[1]) for fraction in fractions]
    divisor = 0
    for number in numbers:
        divisor = greatest_divisor(divisor, number)
    return [number // divisor for number in numbers]
