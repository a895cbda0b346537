"""Orders of ways: directions that are closed under what follows [40]."""

from bowkinds.following import directions_of, follow, way_along
from bowkinds.values import WAYS, are_directions


def is_order(ways, thing):
    """Return whether thing is an order of these ways."""
    if not are_directions(thing):
        return False
    along = sorted([way_along(direction) for direction in thing])
    return along == _ways_but_same(ways) and _is_closed(thing)


def orders_of(ways):
    """Return the ascending list of all orders of these ways."""
    choices = [[]]
    for way in _ways_but_same(ways):
        choices = [choice + [direction] for choice in choices for direction in directions_of(way)]
    ascending = sorted([sorted(choice) for choice in choices])
    return [choice for choice in ascending if _is_closed(choice)]


def _ways_but_same(ways):
    return [way for way in WAYS if way in ways and way != "same"]


def _is_closed(directions):
    for first in directions:
        for second in directions:
            if not all([third in directions for third in follow(first, second)]):
                return False
    return True
