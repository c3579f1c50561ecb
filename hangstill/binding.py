"""Binding: names that a hall binds together, and mobiles that it could spare."""

from hangstill.halls import check_no_ring, groups, hall_shares, paths_from


def is_spare(by_place, place):
    others = by_place[:place] + by_place[place + 1:]
    # In a hall without a ring all ways from name to name agree, so it is enough that the others lead there.
    reached = paths_from(others, min(by_place[place]))
    return all([name in reached for name in by_place[place]])


def bound(hall):
    return sorted([tuple(sorted(paths)) for paths in groups(hall_shares(hall))])


def spare(hall):
    by_place = hall_shares(hall)
    check_no_ring(by_place)
    return [place for place in range(len(by_place)) if is_spare(by_place, place)]
