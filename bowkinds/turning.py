"""Rows turned round: the ring of their places is cut elsewhere [92]."""

from bowkinds.rows import Row, row_of
from bowkinds.values import is_index, is_integer

# Two bows, how many places their ring has, and where it is cut so that they
# lie in another way: apart bows within one another, bows with a common begin
# with a common end, and chained.
CUTS = (
    (((0, 1), (2, 3)), 4, 1),
    (((0, 1), (0, 2)), 3, 1),
    (((0, 1), (0, 2)), 3, 2),
)


def cut_at(row, places, at):
    """Return the Row of the bows if the places of their ring are counted from
    one of them on."""
    return row_of([_cut_bow(bow, places, at) for bow in row])


def cuts(row, places):
    """Return the list of the Rows cut at each place of the ring."""
    return [cut_at(row, places, at) for at in range(places)]


def stays(kind):
    """Return whether each row needs as many layers wherever its ring is cut."""
    begun = "begun" in kind
    if ("apart" in kind) != ("within" in kind):
        return False
    return ("chained" in kind) == begun and ("ended" in kind) == begun


def showing_cut(kind):
    """Return a Row of two bows, how many places its ring has and where it is
    cut to need another number of layers, or None if the kind stays."""
    for bows, places, at in CUTS:
        told = (Row(bows), places, at)
        if is_showing_cut(kind, told):
            return told
    return None


def is_showing_cut(kind, thing):
    """Return whether thing tells a Row of two bows and a cut of its ring with
    unlike numbers of layers."""
    if not isinstance(thing, tuple) or len(thing) != 3:
        return False
    row, places, at = thing
    if not isinstance(row, Row) or len(row) != 2 or not is_integer(places) or not is_index(at, places):
        return False
    if not all([is_index(place, places) for place in row.places()]):
        return False
    # Two bows need one layer if they may be together, and else two.
    return kind.lets(row[0], row[1]) != kind.lets(_cut_bow(row[0], places, at), _cut_bow(row[1], places, at))


def _cut_bow(bow, places, at):
    ends = sorted([(end - at) % places for end in bow])
    return (ends[0], ends[1])
