"""Choosing: weights out of some numbers, and one weight changed, by which a mobile hangs still."""

from hangstill.errors import NoNumber
from hangstill.mobiles import HEAVIEST, check_mobile, check_weights, is_number
from hangstill.ratios import product, quotient
from hangstill.shares import bar, least, name_shares

MOST_NUMBERS = 6


def check_numbers(thing):
    if not isinstance(thing, tuple) or not 1 <= len(thing) <= MOST_NUMBERS:
        raise NoNumber("these are no tuple of 1 to 6 numbers")
    if not all([is_number(number, 1, HEAVIEST) for number in thing]):
        raise NoNumber("these are not all whole numbers from 1 to 999999")
    if list(thing) != sorted(set(thing)):
        raise NoNumber("these numbers do not rise")


def whole_loads(fractions, numbers):
    # What all of it would weigh if it hung still, told by each name alone.
    return dict([(name, quotient((numbers[name], 1), fractions[name])) for name in fractions])


def number_by_others(name, fractions, loads):
    others = [loads[other] for other in loads if other != name]
    if others == [] or any([whole != others[0] for whole in others]):
        return None
    number = product(others[0], fractions[name])
    return number[0] if number[1] == 1 else None


def choices(mobile, numbers):
    check_mobile(mobile)
    check_numbers(numbers)
    if bar(mobile) is not None:
        return []
    weights = least(mobile)
    told = []
    for number in numbers:
        # No number divides all of the least ones, so any others are these a whole number of times.
        times = number // weights[0][1]
        chosen = tuple([(name, many * times) for name, many in weights])
        if chosen[0][1] == number and all([many in numbers for name, many in chosen]):
            told.append(chosen)
    return told


def one_changed(mobile, weights):
    check_mobile(mobile)
    check_weights(mobile, weights)
    if bar(mobile) is not None:
        return []
    numbers = dict(weights)
    fractions = name_shares(mobile)
    loads = whole_loads(fractions, numbers)
    told = []
    for name in sorted(fractions):
        number = number_by_others(name, fractions, loads)
        if number is not None and number <= HEAVIEST and number != numbers[name]:
            told.append((name, number))
    return told
