"""Pulling: how much pulls at the rods of a mobile."""

from hangstill.mobiles import check_mobile, check_weights, pulls, rod_at, tips


def pull(mobile, weights, way):
    check_mobile(mobile)
    check_weights(mobile, weights)
    return pulls(rod_at(mobile, way), dict(weights))


def worst(mobile, weights):
    # Where both are unlike the rod tips, so no others need to be looked at.
    tipping = tips(mobile, weights)
    numbers = dict(weights)
    told = None
    most = 0
    for way, side in tipping:
        both = pulls(rod_at(mobile, way), numbers)
        unlike = abs(both[0] - both[1])
        if unlike > most:
            told = way
            most = unlike
    return told
