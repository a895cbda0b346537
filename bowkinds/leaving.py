"""Bows that are left out so that fewer layers hold all others [71]."""

from bowkinds.layers import are_indexes, hold_each_once, is_layer
from bowkinds.trying import Trial, indexes_of


def left_out(row, kind, many):
    """Return the indexes of fewest bows without which at most many layers hold
    all others."""
    trial = Trial(row, kind)
    return indexes_of(_least_left(trial, many))


def fewest_left(row, kind, many):
    """Return how many bows are left out if as few as can be are."""
    return len(left_out(row, kind, many))


def left_values(row, kind):
    """Return the list of how many bows are left out for no layer, one, two, up
    to the first number of layers for which none is."""
    trial = Trial(row, kind)
    numbers = range(trial.fewest[trial.everyone] + 1)
    return [len(indexes_of(_least_left(trial, many))) for many in numbers]


def weighty_bows(row, kind):
    """Return the indexes of the bows without each of which the row needs fewer
    layers."""
    trial = Trial(row, kind)
    many = trial.fewest[trial.everyone]
    return [index for index in range(len(row)) if trial.fewest[trial.everyone - (1 << index)] < many]


def is_left(row, kind, many, left, layers):
    """Return whether left are indexes without which these layers, at most many,
    in any order, hold each bow of the row once."""
    if not are_indexes(row, left) or not isinstance(layers, list) or len(layers) > many:
        return False
    if not all([is_layer(row, kind, layer) and len(layer) > 0 for layer in layers]):
        return False
    return hold_each_once(row, layers + [left])


def _least_left(trial, many):
    """Return a least set of bows without which many layers are enough."""
    enough = [bows for bows in range(trial.everyone + 1) if trial.fewest[trial.everyone - bows] <= many]
    return min(enough, key=lambda some: len(indexes_of(some)))
