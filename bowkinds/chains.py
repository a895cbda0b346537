"""Chains: bows of each two of which one stands ahead of the other one [50]."""

from bowkinds.bows import direction_of
from bowkinds.layers import in_order


def is_ahead(row, directions, i, j, *, same=False):
    """Return whether the bow i stands ahead of the bow j."""
    direction = direction_of(row[i], row[j])
    if direction == "same":
        return same and i < j
    return direction in directions


def chains(row, directions, *, same=False):
    """Return as few chains as can be, in which each bow stands in just one."""
    before = _bows_before(_bows_behind(row, directions, same))
    after = {before[j]: j for j in range(len(row)) if before[j] is not None}
    firsts = [index for index in range(len(row)) if before[index] is None]
    return in_order([_followed(after, first) for first in firsts])


def unordered(row, directions, *, same=False):
    """Return as many indexes as there are chains, of no two of which one
    bow stands ahead of the other one."""
    behind = _bows_behind(row, directions, same)
    before = _bows_before(behind)
    # From the last bows of the chains on: what cannot be reached as a bow
    # before others, and what is reached as one behind, holds one bow of each
    # link. The bows that are neither are as many as the chains.
    reached = [last for last in range(len(row)) if last not in before]
    held = []
    at = 0
    while at < len(reached):
        index = reached[at]
        for j in behind[index]:
            if j not in held:
                held.append(j)
                reached.append(before[j])
        at += 1
    return [free for free in sorted(reached) if free not in held]


def _bows_behind(row, directions, same):
    """Return for each bow the list of those that it stands ahead of."""
    many = len(row)
    return [[j for j in range(many) if is_ahead(row, directions, i, j, same=same)] for i in range(many)]


def _bows_before(behind):
    """Return for each bow the one just before it in its chain, or None, so
    that as many bows as can be have one."""
    before = [None] * len(behind)
    for index in range(len(behind)):
        _finds_next(behind, before, index, [])
    return before


def _finds_next(behind, before, index, tried):
    """Put a bow just before another one, others giving way if need be;
    return whether there was a place for it."""
    for j in behind[index]:
        if j not in tried:
            tried.append(j)
            if before[j] is None or _finds_next(behind, before, before[j], tried):
                before[j] = index
                return True
    return False


def _followed(after, first):
    chain = [first]
    while chain[-1] in after:
        chain.append(after[chain[-1]])
    return chain
