"""Two bows beside each other, and a bow turned or moved [22]."""

from bowkinds.values import WAYS_BY_DIRECTION


def direction_of(one, other):
    """Return the direction from one bow to another one."""
    begin, end = one
    its_begin, its_end = other
    if end <= its_begin:
        return "meets" if end == its_begin else "before"
    if its_end <= begin:
        return "met" if its_end == begin else "after"
    if begin == its_begin:
        return _direction_from_one_begin(end, its_end)
    if end == its_end:
        return "finished" if begin < its_begin else "finishes"
    if begin < its_begin:
        return "crosses" if end < its_end else "holds"
    return "inside" if end < its_end else "crossed"


def _direction_from_one_begin(end, its_end):
    if end == its_end:
        return "same"
    return "starts" if end < its_end else "started"


def way_of(one, other):
    """Return the way in which two bows lie."""
    return WAYS_BY_DIRECTION[direction_of(one, other)]


def turned_bow(bow):
    """Return the bow seen from behind."""
    begin, end = bow
    return (-end, -begin)


def moved_bow(bow, by):
    """Return the bow of which both places are greater by an integer."""
    begin, end = bow
    return (begin + by, end + by)
