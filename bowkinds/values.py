"""What any value is: an integer, a place, a bow, a way, a direction [21]."""

FARTHEST = 10 ** 30

# Ascending, so that whatever goes through them tells ways ascending.
WAYS = ("apart", "begun", "chained", "crossing", "ended", "same", "within")

# The thirteen directions, ascending, each with the way along it.
WAYS_BY_DIRECTION = {
    "after": "apart",
    "before": "apart",
    "crossed": "crossing",
    "crosses": "crossing",
    "finished": "ended",
    "finishes": "ended",
    "holds": "within",
    "inside": "within",
    "meets": "chained",
    "met": "chained",
    "same": "same",
    "started": "begun",
    "starts": "begun",
}


def is_integer(thing):
    """Return whether thing is an integer; True and False are none."""
    return isinstance(thing, int) and not isinstance(thing, bool)


def is_index(thing, many):
    """Return whether thing is an index of something with so many members."""
    return is_integer(thing) and 0 <= thing < many


def is_place(thing):
    """Return whether thing is a place."""
    return is_integer(thing) and -FARTHEST <= thing <= FARTHEST


def is_bow(thing):
    """Return whether thing is a bow: a tuple of a place and a later one."""
    if not isinstance(thing, tuple) or len(thing) != 2:
        return False
    begin, end = thing
    return is_place(begin) and is_place(end) and begin < end


def are_bows(thing):
    """Return whether thing is a list or a tuple of bows."""
    return isinstance(thing, (list, tuple)) and all([is_bow(part) for part in thing])


def is_way(thing):
    """Return whether thing is one of the seven ways."""
    # Asked first, as a value that cannot be hashed or compares oddly is no way.
    return isinstance(thing, str) and thing in WAYS


def are_ways(thing):
    """Return whether thing is a list or a tuple of ways."""
    return isinstance(thing, (list, tuple)) and all([is_way(part) for part in thing])


def is_direction(thing):
    """Return whether thing is one of the thirteen directions."""
    return isinstance(thing, str) and thing in WAYS_BY_DIRECTION


def are_directions(thing):
    """Return whether thing is an ascending list of different directions."""
    if not isinstance(thing, list) or not all([is_direction(part) for part in thing]):
        return False
    return is_ascending(thing)


def is_ascending(members):
    """Return whether each member of a list is less than the next one."""
    return all([members[at] < members[at + 1] for at in range(len(members) - 1)])
