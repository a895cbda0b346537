"""Kinds and rows compared: which kind needs more, which ways tell rows apart [80]."""

from bowkinds.bows import way_of
from bowkinds.errors import Unlike
from bowkinds.following import way_along
from bowkinds.rows import Row, directions_in
from bowkinds.trees import fewest_by_trying
from bowkinds.values import WAYS

# Two bows for each way in which they lie.
BOWS_BY_WAY = {
    "apart": ((0, 1), (2, 3)),
    "begun": ((0, 1), (0, 2)),
    "chained": ((0, 1), (1, 2)),
    "crossing": ((0, 2), (1, 3)),
    "ended": ((0, 2), (1, 2)),
    "same": ((0, 1), (0, 1)),
    "within": ((0, 3), (1, 2)),
}

# The most bows of a row for which all their sets are looked through.
MOST_TRIED = 10


def never_more(one, other):
    """Return whether for no row one kind needs more layers than another one."""
    return other.inside_of(one)


def showing(one, other):
    """Return a Row of two bows for which one kind needs more layers than
    another one, or None if there is no such row."""
    ways = (other - one).ways()
    return Row(BOWS_BY_WAY[ways[0]]) if len(ways) > 0 else None


def is_showing(one, other, thing):
    """Return whether thing is a Row of at most ten bows for which one kind
    needs more layers than another one."""
    if not isinstance(thing, Row) or len(thing) > MOST_TRIED:
        return False
    return fewest_by_trying(thing, one) > fewest_by_trying(thing, other)


def way_counts(row):
    """Return the dict from the ways in which two bows of a row stand to how
    many pairs of them do."""
    ways = [way_along(direction) for direction in directions_in(row)]
    return {way: ways.count(way) for way in WAYS if way in ways}


def ways_in(row):
    """Return the ascending list of the ways in which two bows of a row stand."""
    return list(way_counts(row))


def alike_for(row, one, other):
    """Return whether two kinds let just the same bows of a row be together."""
    return all([(way in one) == (way in other) for way in ways_in(row)])


def unlike_pairs(row, other):
    """Return the ascending list of the pairs of indexes, with the ways of these
    bows in two rows, where these are unlike."""
    if len(row) != len(other):
        raise Unlike()
    found = []
    for i in range(len(row)):
        for j in range(i + 1, len(row)):
            way, its = way_of(row[i], row[j]), way_of(other[i], other[j])
            if way != its:
                found.append((i, j, way, its))
    return found


def telling_ways(row, other):
    """Return the ascending list of the ways that stand in the unlike pairs."""
    return sorted({way for pair in unlike_pairs(row, other) for way in pair[2:]})


def is_told(kind, row, other):
    """Return whether two bows may be together in one of two rows alone."""
    return any([(pair[2] in kind) != (pair[3] in kind) for pair in unlike_pairs(row, other)])
