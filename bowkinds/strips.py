"""Strips: rows of a piece that is repeated again and again [82]."""

from bowkinds.bows import moved_bow
from bowkinds.errors import NotTight, NoWay
from bowkinds.fewest import crowd_of, fewest_layers
from bowkinds.rows import row_of
from bowkinds.tight import is_tight


def strip(piece, step, many):
    """Return the Row of the first so many copies of a piece."""
    return row_of([moved_bow(bow, copy * step) for copy in range(many) for bow in piece])


def enough_copies(piece, step):
    """Return how many neighbouring copies hold each crowd of bows of which no
    two are apart."""
    longest = max([end - begin for begin, end in piece])
    begins = [begin for begin, _ in piece]
    return (longest + max(begins) - min(begins)) // step + 1


def strip_values(piece, step, kind):
    """Return the list of the fewest layers of no copy, one, two, up to the
    least number of copies from which on they stay."""
    _check(kind)
    last = fewest_layers(_enough(piece, step), kind)
    # More copies never need fewer layers, so the first one as great is the last.
    values = [0]
    while values[-1] < last:
        values.append(fewest_layers(strip(piece, step, len(values)), kind))
    return values


def strip_fewest(piece, step, kind, many):
    """Return the fewest layers of so many copies."""
    values = strip_values(piece, step, kind)
    return values[min(many, len(values) - 1)]


def strip_crowd(piece, step, kind):
    """Return a greatest crowd of the strip, in the enough copies."""
    _check(kind)
    return crowd_of(_enough(piece, step), kind)


def _check(kind):
    if not is_tight(kind):
        raise NotTight()
    if "apart" not in kind:
        raise NoWay("apart")


def _enough(piece, step):
    return strip(piece, step, enough_copies(piece, step))
