"""Layers, crowds and layerings of a row by a kind [32]."""

from bowkinds.values import is_ascending, is_index


def together(row, kind, i, j):
    """Return whether two bows of a row, by their indexes, may be together."""
    return kind.lets(row[i], row[j])


def not_together(row, kind):
    """Return the ascending list of the pairs of indexes of bows that may not."""
    return [(i, j) for i, j in _pairs(list(range(len(row)))) if not together(row, kind, i, j)]


def is_layer(row, kind, thing):
    """Return whether thing is a layer of a row."""
    return are_indexes(row, thing) and _are_together(row, kind, thing)


def is_crowd(row, kind, thing):
    """Return whether thing is a crowd of a row."""
    return are_indexes(row, thing) and not any([together(row, kind, i, j) for i, j in _pairs(thing)])


def is_layering(row, kind, thing):
    """Return whether thing is a layering of a row."""
    if not isinstance(thing, list) or not all([are_indexes(row, layer) for layer in thing]):
        return False
    if not hold_each_once(row, thing) or in_order(thing) != thing:
        return False
    return all([_are_together(row, kind, layer) for layer in thing])


def in_order(layers):
    """Return layers as a layering tells them, without empty ones."""
    return sorted([sorted(layer) for layer in layers if len(layer) > 0])


def are_indexes(row, thing):
    """Return whether thing is an ascending list of different indexes of a row."""
    if not isinstance(thing, list) or not all([is_index(part, len(row)) for part in thing]):
        return False
    return is_ascending(thing)


def _are_together(row, kind, indexes):
    return all([together(row, kind, i, j) for i, j in _pairs(indexes)])


def hold_each_once(row, layers):
    """Return whether each index of a row stands just once in all these lists."""
    return sorted([index for layer in layers for index in layer]) == list(range(len(row)))


def _pairs(indexes):
    return [(indexes[at], j) for at in range(len(indexes)) for j in indexes[at + 1:]]
