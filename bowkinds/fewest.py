"""Fewest layers and greatest crowds of a row by a tight kind [53]."""

from bowkinds.chains import chains, unordered
from bowkinds.ends import crowd_at_an_end, dealt, hued, unlike_ends
from bowkinds.errors import NotTight
from bowkinds.layers import in_order, is_crowd, is_layering
from bowkinds.levels import levels, long_chain
from bowkinds.tight import paper_of


def fewest_layers(row, kind):
    """Return the least number of layers of a layering of a row."""
    return len(layering_of(row, kind))


def layering_of(row, kind):
    """Return a layering of a row of as few layers as can be."""
    form, shown = _tight_paper(kind)
    same = "same" in kind
    if form == "chains":
        return chains(row, shown, same=same)
    if form == "levels":
        # Here those stand one ahead of the other one that may not be together.
        return in_order(levels(row, shown, same=not same))
    if shown == "kept":
        return dealt(row, same=same)
    return hued(row, same=same)


def crowd_of(row, kind):
    """Return a crowd of as many bows as there are fewest layers."""
    form, shown = _tight_paper(kind)
    same = "same" in kind
    if form == "chains":
        return unordered(row, shown, same=same)
    if form == "levels":
        return sorted(long_chain(row, shown, same=not same))
    if shown == "kept":
        return unlike_ends(row, same=same)
    return crowd_at_an_end(row, same=same)


def is_shown(row, kind, thing):
    """Return whether thing is a layering and a crowd with as many members."""
    if not isinstance(thing, tuple) or len(thing) != 2:
        return False
    layers, crowd = thing
    if not is_layering(row, kind, layers) or not is_crowd(row, kind, crowd):
        return False
    return len(layers) == len(crowd)


def held(row, kind):
    """Return as few crowds as can be, in which each bow stands in just one."""
    # A crowd is a layer of the other kind, which is tight just if this one is.
    return layering_of(row, ~kind)


def _tight_paper(kind):
    paper = paper_of(kind)
    if paper[0] == "ring":
        raise NotTight()
    return paper
