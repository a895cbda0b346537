"""What all sets of bows of a short row need, by trying.

A set of bows is an integer here: the bow with an index has the bit 1 << index.
"""

from bowkinds.rounds import barred_from


class Trial:
    """The full layers of a row, and the fewest layers of each set of its bows."""

    def __init__(self, row, kind):
        self.everyone = (1 << len(row)) - 1
        self.fulls = full_layers_of(row, kind)
        self.fewest = _fewest_of_all_sets(self.everyone, self.fulls)

    def layering(self, bows):
        """Return a layering of a set of bows, of as few layers as can be."""
        layers = []
        left = bows
        while left > 0:
            layer = left & self._next_full(left)
            layers.append(indexes_of(layer))
            left = left - layer
        return layers

    def _next_full(self, left):
        # The first bow that is left tells which layer is next, so that the
        # layers come in the order of their least indexes.
        least = left & -left
        many = self.fewest[left] - 1
        return [full for full in self.fulls if full & least and self.fewest[left & ~full] == many][0]


def indexes_of(bows):
    """Return the ascending list of the indexes of a set of bows."""
    return [index for index in range(bows.bit_length()) if bows >> index & 1]


def set_of(indexes):
    """Return the set of the bows with these indexes, which are different."""
    return sum([1 << index for index in indexes])


def full_layers_of(row, kind):
    """Return the list of the full layers of a row, as sets of bows."""
    everyone = (1 << len(row)) - 1
    # Each layer stands beside the set of the bows that may be put into it.
    grown = [(0, everyone)]
    for index in range(len(row)):
        bow = 1 << index
        beside = everyone - bow - set_of(barred_from(row, kind, index))
        grown = grown + [(layer | bow, free & beside) for layer, free in grown if free & bow]
    return [layer for layer, free in grown if free == 0]


def _fewest_of_all_sets(everyone, fulls):
    """Return the list of the fewest layers of each set, by the sets."""
    fewest = [0]
    for bows in range(1, everyone + 1):
        least = bows & -bows
        fewest.append(1 + min([fewest[bows & ~full] for full in fulls if full & least]))
    return fewest
