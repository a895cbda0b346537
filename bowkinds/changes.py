"""Places exchanged, and dealings into layers that are changed little [81]."""

from bowkinds.compared import unlike_pairs
from bowkinds.layers import not_together
from bowkinds.rounds import barred_from
from bowkinds.rows import row_of
from bowkinds.values import is_index


def exchanged(row, place):
    """Return the Row in which a place and the next one are exchanged."""
    beside = {place: place + 1, place + 1: place}
    bows = []
    for begin, end in row:
        ends = sorted([beside.get(begin, begin), beside.get(end, end)])
        bows.append((ends[0], ends[1]))
    return row_of(bows)


def changed_pairs(row, place):
    """Return the pairs of indexes whose ways are unlike when a place and the
    next one are exchanged."""
    return unlike_pairs(row, exchanged(row, place))


def is_dealing(row, kind, thing, many):
    """Return whether thing is a dealing of a row into so many layers."""
    if not isinstance(thing, list) or len(thing) != len(row):
        return False
    if not all([is_index(number, many) for number in thing]):
        return False
    return all([thing[i] != thing[j] for i, j in not_together(row, kind)])


def least_moves(row, kind, dealing, many):
    """Return at how few bows a right dealing can differ from a dealing, and
    such a right one, or None if there is no right one."""
    barred = [barred_from(row, kind, index) for index in range(len(row))]
    for moves in range(len(row) + 1):
        right = _dealt_on(barred, dealing, many, [], moves)
        if right is not None:
            return (moves, right)
    return None


def put_in(row, kind, dealing, bow, many):
    """Return the same for the row with a further bow at its end."""
    return least_moves(row.put(bow), kind, dealing + [None], many)


def taken_out(dealing, index):
    """Return the dealing without one index."""
    return dealing[:index] + dealing[index + 1:]


def _dealt_on(barred, dealing, many, begun, moves):
    """Return a right dealing that goes on from the one of the first bows, with
    at most so many more moves, or None."""
    at = len(begun)
    if at == len(barred):
        return begun
    taken = [begun[j] for j in barred[at] if j < at]
    for number in range(many):
        cost = 0 if dealing[at] is None or dealing[at] == number else 1
        if number not in taken and cost <= moves:
            right = _dealt_on(barred, dealing, many, begun + [number], moves - cost)
            if right is not None:
                return right
    return None
