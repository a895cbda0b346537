"""Kinds: sets of the ways in which two bows may be together [31]."""

from bowkinds.bows import way_of
from bowkinds.errors import Wrong
from bowkinds.values import WAYS, are_ways, is_way

# Seen from behind, begins are ends; each other way stays what it is.
TURNED_WAYS = {"begun": "ended", "ended": "begun"}


class Kind:
    """A set of ways; it never changes."""

    def __init__(self, ways):
        if not are_ways(ways):
            raise Wrong(0)
        self._ways = tuple([way for way in WAYS if way in ways])

    def __eq__(self, other):
        return isinstance(other, Kind) and self._ways == other._ways

    def __len__(self):
        return len(self._ways)

    def __iter__(self):
        return iter(self._ways)

    def __contains__(self, thing):
        return is_way(thing) and thing in self._ways

    def __invert__(self):
        return Kind([way for way in WAYS if way not in self._ways])

    def __or__(self, other):
        return Kind([way for way in WAYS if way in self._ways or way in other._ways])

    def __and__(self, other):
        return Kind([way for way in self._ways if way in other._ways])

    def __sub__(self, other):
        return Kind([way for way in self._ways if way not in other._ways])

    def ways(self):
        """Return the ascending list of the ways."""
        return list(self._ways)

    def turned(self):
        """Return the Kind with "begun" and "ended" exchanged."""
        return Kind([TURNED_WAYS.get(way, way) for way in self._ways])

    def lets(self, one, other):
        """Return whether two bows may be together."""
        return way_of(one, other) in self._ways

    def inside_of(self, other):
        """Return whether another Kind has all ways of this one."""
        return all([way in other._ways for way in self._ways])


def all_kinds():
    """Return the list of all 128 Kinds, those with fewer ways first."""
    ordered = sorted([(len(ways), ways) for ways in _lists_of_ways()])
    return [Kind(ways) for _, ways in ordered]


def _lists_of_ways():
    found = [[]]
    for way in WAYS:
        found = found + [ways + [way] for ways in found]
    return found
