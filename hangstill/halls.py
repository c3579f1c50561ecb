"""Halls: mobiles that hang still by common weights, or a ring of steps that bars them."""

from hangstill.errors import Never, NoHall, NoWeights
from hangstill.mobiles import check_are_weights, is_mobile, is_number
from hangstill.ratios import product, quotient
from hangstill.shares import bar, least_weights, name_shares

MOST_MOBILES = 6


def check_hall(thing):
    if not isinstance(thing, tuple) or not 1 <= len(thing) <= MOST_MOBILES:
        raise NoHall("a hall is a tuple of 1 to 6 mobiles")
    for mobile in thing:
        if not is_mobile(mobile) or bar(mobile) is not None:
            raise NoHall("a hall holds only mobiles that can hang still")


def hall_shares(hall):
    check_hall(hall)
    return [name_shares(mobile) for mobile in hall]


def steps_from(by_place, name):
    steps = []
    for place, table in enumerate(by_place):
        if name in table:
            steps.extend([(place, name, other) for other in table])
    return steps


def paths_from(by_place, start):
    paths = {start: []}
    reached = [start]
    at = 0
    while at < len(reached):
        for step in steps_from(by_place, reached[at]):
            if step[2] not in paths:
                paths[step[2]] = paths[step[1]] + [step]
                reached.append(step[2])
        at += 1
    return paths


def groups(by_place):
    told = []
    seen = {}
    for table in by_place:
        for name in table:
            if name not in seen:
                paths = paths_from(by_place, name)
                seen.update(paths)
                told.append(paths)
    return told


def backward(steps):
    return [(place, other, one) for place, one, other in reversed(steps)]


def comes_to(by_place, steps):
    ratio = (1, 1)
    for place, one, other in steps:
        ratio = product(ratio, quotient(by_place[place][other], by_place[place][one]))
    return ratio


def closing_steps(by_place):
    # Any step of a mobile comes to as much as two from one and the same name of it, so these do.
    steps = []
    for place, table in enumerate(by_place):
        first = min(table)
        steps.extend([(place, first, other) for other in table])
    return steps


def find_ring(by_place):
    paths = {}
    for group in groups(by_place):
        paths.update(group)
    for step in closing_steps(by_place):
        steps = paths[step[1]] + [step] + backward(paths[step[2]])
        if comes_to(by_place, steps) != (1, 1):
            return steps
    return None


def check_no_ring(by_place):
    if find_ring(by_place) is not None:
        raise Never("these mobiles can not hang still together")


def is_step(by_place, thing):
    if not isinstance(thing, tuple) or len(thing) != 3:
        return False
    if not is_number(thing[0], 0, len(by_place) - 1):
        return False
    # Texts alone are looked up: other things may not be fit for it.
    if not isinstance(thing[1], str) or not isinstance(thing[2], str):
        return False
    return thing[1] in by_place[thing[0]] and thing[2] in by_place[thing[0]]


def is_closed(steps):
    # Ahead of the first step, at -1, lies the last one.
    return all([steps[at - 1][2] == steps[at][1] for at in range(len(steps))])


def group_weights(by_place, paths):
    return dict([(name, comes_to(by_place, paths[name])) for name in paths])


def check_told(by_place, told):
    check_are_weights(told)
    for name, number in told:
        if not any([name in table for table in by_place]):
            raise NoWeights(f"there is no {name} in the hall")


def settled_group(weights, told):
    if told == []:
        return []
    scale = quotient((told[0][1], 1), weights[told[0][0]])
    for name, number in told:
        if product(scale, weights[name]) != (number, 1):
            raise Never("the told weights bar one another")
    return [(name, product(scale, weights[name])) for name in weights]


def ring(hall):
    return find_ring(hall_shares(hall))


def is_ring(hall, thing):
    by_place = hall_shares(hall)
    if not isinstance(thing, list) or not all([is_step(by_place, step) for step in thing]):
        return False
    return is_closed(thing) and comes_to(by_place, thing) != (1, 1)


def together(hall):
    by_place = hall_shares(hall)
    check_no_ring(by_place)
    told = []
    for paths in groups(by_place):
        told.extend(least_weights(group_weights(by_place, paths)))
    return tuple(sorted(told))


def settled(hall, told):
    by_place = hall_shares(hall)
    check_told(by_place, told)
    check_no_ring(by_place)
    answer = []
    for paths in groups(by_place):
        known = [pair for pair in told if pair[0] in paths]
        answer.extend(settled_group(group_weights(by_place, paths), known))
    return sorted(answer)
