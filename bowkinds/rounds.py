"""Rounds, which bar two layers, and the layerings of two layers [60]."""

from bowkinds.layers import in_order, together
from bowkinds.values import is_index


def is_round(row, kind, thing):
    """Return whether thing is a round of a row."""
    if not isinstance(thing, list) or len(thing) < 3 or len(thing) % 2 == 0:
        return False
    if not all([is_index(index, len(row)) for index in thing]) or len(set(thing)) != len(thing):
        return False
    return not any([together(row, kind, thing[at - 1], thing[at]) for at in range(len(thing))])


def round_of(row, kind):
    """Return a round with the fewest members, or None if there is none."""
    barred = _barred_from_each(row, kind)
    best = None
    for start in range(len(row)):
        trails = _trails(barred, start)
        for i in trails:
            for j in barred[i]:
                # The shortest of these ways round comes nowhere twice: else a
                # part of it would be a shorter one.
                many = 2 * len(trails[i]) - 1
                if len(trails[j]) == len(trails[i]) and (best is None or many < len(best)):
                    best = trails[i] + trails[j][:0:-1]
    return best


def two_layers(row, kind):
    """Return a layering of as few layers as can be, if two are enough, or None."""
    sides = _sides(_barred_from_each(row, kind))
    if sides is None:
        return None
    return in_order([[index for index in sides if sides[index] == side] for side in (0, 1)])


def barred_from(row, kind, index):
    """Return the ascending list of the other bows that may not be together
    with a bow."""
    bow = row[index]
    return [j for j in range(len(row)) if j != index and not kind.lets(bow, row[j])]


def linked(row, kind):
    """Return the list of the lists of bows that hang together by being barred."""
    barred = _barred_from_each(row, kind)
    parts = []
    seen = set()
    for start in range(len(row)):
        if start not in seen:
            part = sorted(_trails(barred, start))
            parts.append(part)
            for index in part:
                seen.add(index)
    return parts


def in_two(row, kind, i, j):
    """Return how two bows lie in the layerings of at most two layers."""
    barred = _barred_from_each(row, kind)
    sides = _sides(barred)
    if sides is None:
        return "none"
    if j not in _trails(barred, i):
        return "free"
    return "one" if sides[i] == sides[j] else "two"


def many_in_two(row, kind):
    """Return how many layerings of at most two layers there are."""
    if _sides(_barred_from_each(row, kind)) is None:
        return 0
    many = 1
    # Each part of the bows but the first one may be put in either way round.
    for _ in linked(row, kind)[1:]:
        many = many * 2
    return many


def _barred_from_each(row, kind):
    return [barred_from(row, kind, index) for index in range(len(row))]


def _trails(barred, start):
    """Return the dict from all bows that hang together with a bow to shortest
    lists of bows, each barred from the next one, from start to them."""
    trails = {start: [start]}
    queue = [start]
    at = 0
    while at < len(queue):
        index = queue[at]
        for j in barred[index]:
            if j not in trails:
                trails[j] = trails[index] + [j]
                queue.append(j)
        at += 1
    return trails


def _sides(barred):
    """Return the dict from the indexes to 0 and 1 by which no two bows that
    may not be together have the same, or None if there is none."""
    sides = {}
    for start in range(len(barred)):
        if start not in sides:
            trails = _trails(barred, start)
            for index in trails:
                sides[index] = 1 - len(trails[index]) % 2
    for i in sides:
        if not all([sides[i] != sides[j] for j in barred[i]]):
            return None
    return sides
