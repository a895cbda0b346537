"""Rows: lists of bows [30]."""

from bowkinds.bows import direction_of, moved_bow, turned_bow
from bowkinds.errors import NoBow, Wrong
from bowkinds.values import are_bows, is_bow, is_index


class Row:
    """A list of bows, which are told by their indexes; it never changes."""

    def __init__(self, bows):
        if not are_bows(bows):
            raise Wrong(0)
        self._bows = tuple(bows)

    def __eq__(self, other):
        return isinstance(other, Row) and self._bows == other._bows

    def __len__(self):
        return len(self._bows)

    def __iter__(self):
        return iter(self._bows)

    def __or__(self, other):
        return row_of(self._bows + other._bows)

    def __getitem__(self, index):
        if not is_index(index, len(self._bows)):
            raise NoBow(index)
        return self._bows[index]

    def bows(self):
        """Return the list of the bows."""
        return list(self._bows)

    def places(self):
        """Return the ascending list of the places where bows begin or end."""
        return sorted({place for bow in self._bows for place in bow})

    def put(self, bow):
        """Return the Row with a bow more at its end."""
        if not is_bow(bow):
            raise Wrong(0)
        return row_of(self._bows + (bow,))

    def without(self, index):
        """Return the Row without one bow."""
        if not is_index(index, len(self._bows)):
            raise NoBow(index)
        return row_of(self._bows[:index] + self._bows[index + 1:])

    def only(self, indexes):
        """Return the Row of the bows with these indexes, in their order."""
        return row_of([self[index] for index in indexes])

    def turned(self):
        """Return the Row of the bows seen from behind."""
        return row_of([turned_bow(bow) for bow in self._bows])

    def moved(self, by):
        """Return the Row of the bows moved by an integer."""
        return row_of([moved_bow(bow, by) for bow in self._bows])

    def plain(self):
        """Return the Row in which the places are 0, 1, .. in their order."""
        ranks = {place: rank for rank, place in enumerate(self.places())}
        return row_of([(ranks[begin], ranks[end]) for begin, end in self._bows])


def row_of(bows):
    """Return the Row of bows that come of those of other Rows."""
    # Those were looked at before; to look at them again would be an error
    # where a caller moves them out of their bounds.
    made = Row([])
    made._bows = tuple(bows)
    return made


def directions_in(row):
    """Return the list of the directions from each bow to those behind it."""
    bows = row.bows()
    return [direction_of(bows[i], bows[j]) for i in range(len(bows)) for j in range(i + 1, len(bows))]


def are_alike(one, other):
    """Return whether two Rows have as many bows, which lie in the same directions."""
    return len(one) == len(other) and directions_in(one) == directions_in(other)
