"""Greatest and full layers of a row [70]."""

from bowkinds.fewest import crowd_of
from bowkinds.layers import is_layer, is_layering
from bowkinds.tight import is_tight
from bowkinds.trying import full_layers_of, indexes_of


def greatest_layer(row, kind):
    """Return a greatest layer of a row."""
    if is_tight(kind):
        # A layer is a crowd of the other kind, which is tight just if this one is.
        return crowd_of(row, ~kind)
    return greatest_layers(row, kind)[0]


def greatest_layers(row, kind):
    """Return the ascending list of all greatest layers."""
    found = full_layers(row, kind)
    many = max([len(layer) for layer in found])
    return [layer for layer in found if len(layer) == many]


def full_layers(row, kind):
    """Return the ascending list of all full layers."""
    return sorted([indexes_of(layer) for layer in full_layers_of(row, kind)])


def is_greatest(row, kind, layer, crowds):
    """Return whether layer is a layer, and crowds are as many crowds as it has
    bows, in which each bow of the row stands once."""
    if not is_layer(row, kind, layer) or not is_layering(row, ~kind, crowds):
        return False
    return len(crowds) == len(layer)
