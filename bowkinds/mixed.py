"""Layers of one kind beside layers of another one [72]."""

from bowkinds.layers import hold_each_once, is_layer
from bowkinds.trying import Trial


def mixed_values(row, one, other):
    """Return the list of the fewest layers of other beside at most 0, 1, 2
    layers of one, and so on, up to the first that is 0."""
    first, second = Trial(row, one), Trial(row, other)
    numbers = range(first.fewest[first.everyone] + 1)
    return [second.fewest[_bows_of_other(first, second, many)] for many in numbers]


def mixed_layering(row, one, other, many):
    """Return at most many layers of one, and as few as can be of other, that
    hold each bow once."""
    first, second = Trial(row, one), Trial(row, other)
    bows = _bows_of_other(first, second, many)
    return (first.layering(first.everyone - bows), second.layering(bows))


def is_mixed(row, one, other, thing):
    """Return whether thing is a tuple of layers of one and of layers of other,
    in any order, that hold each bow once."""
    if not isinstance(thing, tuple) or len(thing) != 2:
        return False
    if not _are_layers(row, one, thing[0]) or not _are_layers(row, other, thing[1]):
        return False
    return hold_each_once(row, thing[0] + thing[1])


def _bows_of_other(first, second, many):
    """Return a set of bows that needs as few layers of the second kind as can
    be, if many layers of the first kind are to hold the others."""
    everyone = first.everyone
    enough = [bows for bows in range(everyone + 1) if first.fewest[everyone - bows] <= many]
    return min(enough, key=lambda some: second.fewest[some])


def _are_layers(row, kind, thing):
    if not isinstance(thing, list):
        return False
    return all([is_layer(row, kind, layer) and len(layer) > 0 for layer in thing])
