"""Levels: how many bows of a chain stand ahead of a bow [51]."""

from bowkinds.chains import is_ahead


def level_of(row, directions, index, *, same=False):
    """Return the greatest number of bows of a chain ahead of a bow."""
    return _numbers(_bows_ahead(row, directions, same))[index]


def levels(row, directions, *, same=False):
    """Return the list of the ascending lists of the bows of each level."""
    numbers = _numbers(_bows_ahead(row, directions, same))
    many = max(numbers, default=-1) + 1
    return [[index for index in range(len(row)) if numbers[index] == number] for number in range(many)]


def long_chain(row, directions, *, same=False):
    """Return a chain of as many bows as there are levels, each one ahead of
    the next one."""
    ahead = _bows_ahead(row, directions, same)
    numbers = _numbers(ahead)
    backward = []
    choice = list(range(len(row)))
    while len(choice) > 0:
        # One of the greatest level among those ahead of a bow is just one
        # level below it, so no level is left out.
        last = max(choice, key=lambda index: numbers[index])
        backward.append(last)
        choice = ahead[last]
    return backward[::-1]


def _bows_ahead(row, directions, same):
    """Return for each bow the list of those that stand ahead of it."""
    many = len(row)
    return [[i for i in range(many) if is_ahead(row, directions, i, j, same=same)] for j in range(many)]


def _numbers(ahead):
    """Return the list of the levels of all bows."""
    numbers = [0] * len(ahead)
    # What stands ahead of a bow has fewer bows ahead of itself: its level is
    # known by then.
    for _, index in sorted([(len(ahead[index]), index) for index in range(len(ahead))]):
        numbers[index] = max([numbers[i] for i in ahead[index]], default=-1) + 1
    return numbers
