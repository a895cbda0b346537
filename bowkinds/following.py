"""Directions: their reverses and ways, and what follows from them [23]."""

from bowkinds.values import WAYS_BY_DIRECTION

# Where the begin and the end of a bow stand beside another bow: 0 ahead of its
# begin, 1 at its begin, 2 between its places, 3 at its end, 4 behind its end.
SPOTS = {
    "after": (4, 4),
    "before": (0, 0),
    "crossed": (2, 4),
    "crosses": (0, 2),
    "finished": (0, 3),
    "finishes": (2, 3),
    "holds": (0, 4),
    "inside": (2, 2),
    "meets": (0, 1),
    "met": (3, 4),
    "same": (1, 3),
    "started": (1, 4),
    "starts": (1, 2),
}


def reverse_of(direction):
    """Return the reverse direction."""
    for other in directions_of(way_along(direction)):
        if other != direction:
            return other
    # The way "same" has but one direction, which is its own reverse.
    return direction


def way_along(direction):
    """Return the way of a direction."""
    return WAYS_BY_DIRECTION[direction]


def directions_of(way):
    """Return the ascending list of the directions of a way."""
    return [direction for direction in WAYS_BY_DIRECTION if WAYS_BY_DIRECTION[direction] == way]


def follow(first, second):
    """Return the ascending list of the directions that can lie from x to z,
    if first lies from x to y and second from y to z."""
    begin, end = SPOTS[first]
    begins = _spots_beyond(begin, second)
    ends = _spots_beyond(end, second)
    # The begin and the end of x are free of each other: any two of their spots
    # that stand for a direction can be had at once.
    return [third for third in SPOTS if SPOTS[third][0] in begins and SPOTS[third][1] in ends]


def _spots_beyond(spot, second):
    """Return the spots beside z of a place at a spot beside y, from which
    second lies to z."""
    begin, end = SPOTS[second]
    if spot == 0:
        return list(range(0, _last_ahead(begin) + 1))
    if spot == 1:
        return [begin]
    if spot == 2:
        return list(range(_first_behind(begin), _last_ahead(end) + 1))
    if spot == 3:
        return [end]
    return list(range(_first_behind(end), 5))


def _last_ahead(spot):
    # Ahead of a place at spots 0, 2 and 4 there is room at the same spot; the
    # begin and the end of z, with the odd spots, are one place each.
    return spot - 1 if spot in (1, 3) else spot


def _first_behind(spot):
    return spot + 1 if spot in (1, 3) else spot


def follow_all(directions):
    """Return the ascending list of the directions that can lie from the first
    to the last one of bows that lie one behind another in directions."""
    reached = ["same"]
    for direction in directions:
        reached = sorted({third for first in reached for third in follow(first, direction)})
    return reached
