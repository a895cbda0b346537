"""Begins and ends: layers by common ones, and layers without them [52]."""

from bowkinds.layers import in_order
from bowkinds.values import is_integer, is_place

BEGIN = 0
END = 1


def end_numbers(row, *, same=False):
    """Return enough numbers with the least sum."""
    begins, ends, _ = _least_numbers(_counts(row, same))
    return (_told_numbers(begins), _told_numbers(ends))


def are_enough(row, thing, *, same=False):
    """Return whether thing is enough numbers for a row."""
    if not isinstance(thing, tuple) or len(thing) != 2:
        return False
    begins, ends = thing
    if not _are_numbers(begins) or not _are_numbers(ends):
        return False
    counts = _counts(row, same)
    return all([begins.get(bow[BEGIN], 0) + ends.get(bow[END], 0) >= counts[bow] for bow in counts])


def dealt(row, *, same=False):
    """Return as few layers as can be of bows with a common begin or end."""
    begins, ends = end_numbers(row, same=same)
    layers = {}
    laid = {}
    for index in range(len(row)):
        begin, end = row[index]
        copy = 0 if same else laid.get((begin, end), 0)
        laid[(begin, end)] = copy + 1
        # The first copies of a bow go to the layers of its begin, one to each,
        # the others to those of its end.
        past = copy - begins.get(begin, 0)
        key = (BEGIN, begin, copy) if past < 0 else (END, end, past)
        layers.setdefault(key, []).append(index)
    return in_order(list(layers.values()))


def unlike_ends(row, *, same=False):
    """Return as many indexes as the least sum of enough numbers, of bows that
    are the same or have neither a common begin nor a common end."""
    _, _, begin_by_end = _least_numbers(_counts(row, same))
    return [index for index in _counted(row, same) if begin_by_end.get(row[index][END]) == row[index][BEGIN]]


def most_at_an_end(row, *, same=False):
    """Return the side and the place at which most bows begin or end, and how
    many these are."""
    counts = {}
    for index in _counted(row, same):
        begin, end = row[index]
        for key in (("begin", begin), ("end", end)):
            counts[key] = counts.get(key, 0) + 1
    if len(counts) == 0:
        return ("begin", 0, 0)
    many = max(list(counts.values()))
    side, place = min([key for key in counts if counts[key] == many])
    return (side, place, many)


def crowd_at_an_end(row, *, same=False):
    """Return the indexes of as many bows that begin or end at one place as
    can be."""
    side, place, _ = most_at_an_end(row, same=same)
    at = BEGIN if side == "begin" else END
    return [index for index in _counted(row, same) if row[index][at] == place]


def hued(row, *, same=False):
    """Return as few layers as can be of bows with neither a common begin nor
    a common end."""
    _, _, many = most_at_an_end(row, same=same)
    hues = {}
    for index in _counted(row, same):
        _give_hue(row, hues, index, many)
    # What is not counted goes with the same bow that is.
    by_bow = {row[index]: hues[index] for index in hues}
    layers = [[] for _ in range(many)]
    for index in range(len(row)):
        layers[hues.get(index, by_bow[row[index]])].append(index)
    return in_order(layers)


def _counted(row, same):
    """Return the ascending list of all indexes, or, if the same bow counts
    once, of the first one of each bow."""
    bows = row.bows()
    return [index for index in range(len(bows)) if not same or bows.index(bows[index]) == index]


def _counts(row, same):
    """Return the dict from the bows of a row to how often each one counts."""
    counts = {}
    for index in _counted(row, same):
        counts[row[index]] = counts.get(row[index], 0) + 1
    return counts


def _are_numbers(thing):
    if not isinstance(thing, dict):
        return False
    return all([is_place(place) and is_integer(number) and number >= 1 for place, number in thing.items()])


def _told_numbers(numbers):
    return {place: numbers[place] for place in sorted(numbers) if numbers[place] > 0}


def _least_numbers(counts):
    """Return the numbers of the begins and of the ends, 0 among them, with the
    least sum, and the dict from ends to begins of the bows that show it.

    These bows have neither common begins nor common ends, the numbers of each
    are together just as great as its count, and each end and begin with a
    number from 1 on is one of theirs. So both sums are equal.
    """
    begins = {}
    ends = {}
    for begin, end in sorted(counts):
        begins[begin] = max(begins.get(begin, 0), counts[(begin, end)])
        ends[end] = 0
    begin_by_end = {}
    for start in list(begins):
        _settle(counts, begins, ends, begin_by_end, start)
    return (begins, ends, begin_by_end)


def _settle(counts, begins, ends, begin_by_end, start):
    """Lessen the sum of the numbers until the begin start has a bow of those
    that show it, or the number 0."""
    while True:
        reached, came_from = _reach(counts, begins, ends, begin_by_end, start)
        for end in came_from:
            if end not in begin_by_end:
                _pass_on(begin_by_end, came_from, end, start)
                return
        for begin in reached:
            if begins[begin] == 0:
                # It needs no bow any more: the one that it had is passed on.
                if begin != start:
                    _pass_on(begin_by_end, came_from, _end_held_by(begin_by_end, begin), start)
                return
        _lessen(counts, begins, ends, reached, came_from)


def _reach(counts, begins, ends, begin_by_end, start):
    """Return the list of the begins, and the dict of the ends with the begins
    from which one comes to them, that are reached from a begin by bows whose
    numbers are just great enough, and back by those that show the sum."""
    reached = [start]
    came_from = {}
    at = 0
    while at < len(reached):
        for begin, end in counts:
            is_next = begin == reached[at] and end not in came_from
            if is_next and begins[begin] + ends[end] == counts[(begin, end)]:
                came_from[end] = begin
                if end in begin_by_end:
                    reached.append(begin_by_end[end])
        at += 1
    return (reached, came_from)


def _pass_on(begin_by_end, came_from, last, start):
    """Give the end last, and each end that is thereby lost, to the begin from
    which one came to it, back to the begin start."""
    end = last
    while came_from[end] != start:
        lost = _end_held_by(begin_by_end, came_from[end])
        begin_by_end[end] = came_from[end]
        end = lost
    begin_by_end[end] = start


def _end_held_by(begin_by_end, begin):
    return [end for end in begin_by_end if begin_by_end[end] == begin][0]


def _lessen(counts, begins, ends, reached, came_from):
    """Move numbers from the begins that were reached to the ends that were, by
    as much as the numbers stay enough."""
    room = [begins[begin] for begin in reached]
    for begin, end in counts:
        if begin in reached and end not in came_from:
            room.append(begins[begin] + ends[end] - counts[(begin, end)])
    by = min(room)
    for begin in reached:
        begins[begin] = begins[begin] - by
    for end in came_from:
        ends[end] = ends[end] + by


def _give_hue(row, hues, index, many):
    """Give a bow one of many hues, which no bow with its begin or its end has,
    exchanging two hues along other bows if need be."""
    begin, end = row[index]
    hue = _free_hue(row, hues, BEGIN, begin, many)
    other = _free_hue(row, hues, END, end, many)
    path = []
    wanted, side, place = hue, END, end
    found = _with_hue(row, hues, side, place, wanted)
    # From the end the path goes by bows of both hues in turn. It comes to
    # begins by the hue that is free at the begin of the bow, so never there.
    while found is not None:
        path.append(found)
        wanted = other if wanted == hue else hue
        side = BEGIN if side == END else END
        found = _with_hue(row, hues, side, row[found][side], wanted)
    for member in path:
        hues[member] = other if hues[member] == hue else hue
    hues[index] = hue


def _free_hue(row, hues, side, place, many):
    taken = [hues[index] for index in hues if row[index][side] == place]
    return min([hue for hue in range(many) if hue not in taken])


def _with_hue(row, hues, side, place, hue):
    for index in hues:
        if hues[index] == hue and row[index][side] == place:
            return index
    return None
