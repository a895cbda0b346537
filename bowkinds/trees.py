"""Fewest layers by trying, and trees, which show that so many are not enough [61]."""

from bowkinds.layers import are_indexes, is_layer
from bowkinds.rounds import barred_from
from bowkinds.trying import Trial, indexes_of, set_of
from bowkinds.values import is_index


def fewest_by_trying(row, kind):
    """Return the least number of layers of a layering of a row."""
    trial = Trial(row, kind)
    return trial.fewest[trial.everyone]


def layering_by_trying(row, kind):
    """Return a layering of a row of as few layers as can be."""
    trial = Trial(row, kind)
    return trial.layering(trial.everyone)


def layerings(row, kind, many):
    """Return the ascending list of all layerings with just so many layers."""
    found = [[]]
    for index in range(len(row)):
        found = [layers for begun in found for layers in _with_one_more(row, kind, begun, index)]
        found = [layers for layers in found if len(layers) <= many]
    # Lists that were made of others share layers with them.
    return [[list(layer) for layer in layers] for layers in sorted(found) if len(layers) == many]


def _with_one_more(row, kind, layers, index):
    """Return the lists of layers in which a bow more is in one of these layers,
    or in one of its own."""
    found = [layers + [[index]]]
    for at in range(len(layers)):
        grown = layers[at] + [index]
        if is_layer(row, kind, grown):
            found.append(layers[:at] + [grown] + layers[at + 1:])
    return found


def tree_for(row, kind, many):
    """Return a tree that shows that many layers are not enough, or None if
    they are."""
    if many >= fewest_by_trying(row, kind):
        return None
    return _tree(_first_heaps(row, kind), many)


def is_tree(row, kind, many, thing):
    """Return whether thing is a tree that shows that many layers are not enough."""
    return _is_tree(row, _first_heaps(row, kind), many, thing)


def leaves(tree):
    """Return how many crowds there are in a tree."""
    if tree[0] == "crowd":
        return 1
    return leaves(tree[3]) + leaves(tree[4])


# A heap is a tuple of two sets of bows: its own ones, and some of each heap that
# is barred from it, none of any other one.


def _first_heaps(row, kind):
    return [(1 << index, set_of(barred_from(row, kind, index))) for index in range(len(row))]


def _are_barred(one, other):
    return one[0] & other[1] != 0


def _heap_with(heaps, index):
    return [heap for heap in heaps if heap[0] >> index & 1][0]


def _joined(heaps, one, other):
    """Return the heaps if these two are one heap."""
    rest = [heap for heap in heaps if heap not in (one, other)]
    return rest + [(one[0] | other[0], one[1] | other[1])]


def _parted(heaps, one, other):
    """Return the heaps if a bow of one and a bow of the other one are put into
    unlike layers: these two heaps are barred then."""
    rest = [heap for heap in heaps if heap not in (one, other)]
    return rest + [(one[0], one[1] | other[0]), (other[0], other[1] | one[0])]


def _tree(heaps, many):
    crowd = _greatest_crowd(heaps)
    if len(crowd) > many:
        return ("crowd", sorted([_first_bow(heap) for heap in crowd]))
    one, other = _pair_to_try(heaps, crowd)
    i, j = sorted([_first_bow(one), _first_bow(other)])
    return ("pair", i, j, _tree(_joined(heaps, one, other), many), _tree(_parted(heaps, one, other), many))


def _first_bow(heap):
    return indexes_of(heap[0])[0]


def _greatest_crowd(heaps):
    """Return as many heaps as can be, each two of which are barred."""
    if len(heaps) == 0:
        return []
    first, rest = heaps[0], heaps[1:]
    with_first = [first] + _greatest_crowd([heap for heap in rest if _are_barred(first, heap)])
    if len(with_first) >= len(rest):
        return with_first
    without = _greatest_crowd(rest)
    return with_first if len(with_first) >= len(without) else without


def _pair_to_try(heaps, crowd):
    """Return two heaps that are not barred: one of a greatest crowd, and of
    the others the one that is barred from most of the crowd.

    Joined or parted, they bring a greater crowd nearest: so the tree is small.
    There are others, as fewer layers than the crowd has heaps would be enough
    if there were none; and none of them is barred from the whole crowd.
    """
    others = [heap for heap in heaps if heap not in crowd]
    other = max(others, key=lambda heap: len(_barred_in(crowd, heap)))
    barred = _barred_in(crowd, other)
    return ([heap for heap in crowd if heap not in barred][0], other)


def _barred_in(crowd, heap):
    return [one for one in crowd if _are_barred(one, heap)]


def _is_tree(row, heaps, many, thing):
    if not isinstance(thing, tuple) or len(thing) not in (2, 5) or not isinstance(thing[0], str):
        return False
    if len(thing) == 2:
        return thing[0] == "crowd" and _is_crowd_of_heaps(row, heaps, many, thing[1])
    word, i, j, joined, parted = thing
    if word != "pair" or not is_index(i, len(row)) or not is_index(j, len(row)) or i >= j:
        return False
    one, other = _heap_with(heaps, i), _heap_with(heaps, j)
    if one == other or _are_barred(one, other):
        return False
    if not _is_tree(row, _joined(heaps, one, other), many, joined):
        return False
    return _is_tree(row, _parted(heaps, one, other), many, parted)


def _is_crowd_of_heaps(row, heaps, many, indexes):
    if not are_indexes(row, indexes) or len(indexes) <= many:
        return False
    # A heap is never barred from itself, so two bows of one heap are found, too.
    crowd = [_heap_with(heaps, index) for index in indexes]
    return all([_are_barred(crowd[at], heap) for at in range(len(crowd)) for heap in crowd[at + 1:]])
