"""Tight kinds, and the papers that show whether a kind is tight [41]."""

from bowkinds.kinds import all_kinds
from bowkinds.orders import is_order, orders_of
from bowkinds.values import are_bows

# Each kind that is not tight has one of these rings, in the one or the other
# of the two orders below. (The tests look through all rings of five bows.)
RINGS = (
    ((0, 1), (1, 2), (2, 3), (3, 4), (1, 3)),
    ((0, 2), (1, 3), (2, 4), (0, 3), (1, 4)),
    ((0, 1), (2, 3), (0, 4), (1, 2), (3, 4)),
    ((0, 1), (1, 2), (2, 3), (3, 4), (0, 3)),
    ((0, 1), (1, 2), (2, 3), (3, 4), (1, 4)),
    ((0, 4), (1, 5), (1, 3), (2, 4), (3, 5)),
    ((0, 2), (1, 3), (2, 4), (0, 4), (1, 5)),
    ((0, 2), (2, 4), (0, 5), (1, 3), (3, 5)),
)

# Five bows as they stand, and so that just those that were no neighbours are
# neighbours: a ring of a kind is then one of its other kind.
RING_ORDERS = ((0, 1, 2, 3, 4), (0, 2, 4, 1, 3))


def is_tight(kind):
    """Return whether a kind is tight."""
    return ring_for(kind) is None


def tight_kinds():
    """Return the list of all tight kinds, in the order of all kinds."""
    return [kind for kind in all_kinds() if is_tight(kind)]


def paper_of(kind):
    """Return a paper of a kind: what shows whether it is tight."""
    ring = ring_for(kind)
    if ring is not None:
        return ("ring", ring)
    for form, ways in (("chains", kind.ways()), ("levels", (~kind).ways())):
        orders = orders_of(ways)
        if len(orders) > 0:
            return (form, orders[0])
    return ("ends", "kept" if _has_just_ends(kind) else "lacked")


def is_paper(kind, thing):
    """Return whether thing is a paper of a kind."""
    if not isinstance(thing, tuple) or len(thing) != 2:
        return False
    form, shown = thing
    if form == "chains":
        return is_order(kind.ways(), shown)
    if form == "levels":
        return is_order((~kind).ways(), shown)
    if form == "ring":
        return is_ring(kind, shown)
    if form == "ends" and shown == "kept":
        return _has_just_ends(kind)
    if form == "ends" and shown == "lacked":
        return _has_just_ends(~kind)
    return False


def _has_just_ends(kind):
    return [way for way in kind if way != "same"] == ["begun", "ended"]


def ring_for(kind):
    """Return a ring of a kind, or None if it is tight."""
    for ring in RINGS:
        for order in RING_ORDERS:
            bows = [ring[at] for at in order]
            if is_ring(kind, bows):
                return bows
    return None


def is_ring(kind, thing):
    """Return whether thing is a ring of a kind."""
    if not isinstance(thing, list) or len(thing) != 5 or not are_bows(thing):
        return False
    for i in range(5):
        for j in range(i + 1, 5):
            are_neighbours = j - i in (1, 4)
            if kind.lets(thing[i], thing[j]) != are_neighbours:
                return False
    return True
