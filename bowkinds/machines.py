"""Piles and lines, which bows come into and come off [91]."""

from bowkinds.bows import way_of
from bowkinds.errors import BadGoing
from bowkinds.rows import Row
from bowkinds.values import is_index

# The way in which no two bows may lie that one machine takes in.
BARRED_WAYS = {"pile": "crossing", "line": "within"}


def goings_of(row):
    """Return the list of the bows in the order of their ends."""
    ends = [end for _, end in row]
    return [ends.index(end) for end in sorted(ends)]


def off_a_pile(word):
    """Return the list of the bows in the order in which they come off a pile."""
    pile = []
    goings = []
    for sign in word:
        if sign == "(":
            pile.append(len(pile) + len(goings))
        else:
            goings.append(pile.pop())
    return goings


def off_a_line(word):
    """Return the list of the bows in the order in which they come off a line."""
    return list(range(word.count("(")))


def row_from(word, goings):
    """Return the Row over a word whose bows end in this order."""
    if not isinstance(goings, list):
        raise BadGoing(-1)
    begins = []
    ends = {}
    for place in range(len(word)):
        if word[place] == "(":
            begins.append(place)
        else:
            at = len(ends)
            if at == len(goings) or not is_index(goings[at], len(begins)) or goings[at] in ends:
                raise BadGoing(at)
            ends[goings[at]] = place
    if len(goings) > len(ends):
        raise BadGoing(len(ends))
    return Row([(begins[number], ends[number]) for number in range(len(begins))])


def serve(row, machines):
    """Return the least list of machines that take in the bows, or None."""
    return _served_on(row, machines, [])


def is_served(row, machines, thing):
    """Return whether thing tells for each bow a machine that takes it in, such
    that all come off when they end."""
    if not isinstance(thing, list) or len(thing) != len(row):
        return False
    if not all([is_index(machine, len(machines)) for machine in thing]):
        return False
    return all([_takes(row, machines, thing[:at], thing[at]) for at in range(len(thing))])


def _served_on(row, machines, served):
    """Return the least list that goes on from the one of the first bows, or None."""
    if len(served) == len(row):
        return served
    for machine in range(len(machines)):
        if _takes(row, machines, served, machine):
            found = _served_on(row, machines, served + [machine])
            if found is not None:
                return found
    return None


def _takes(row, machines, served, machine):
    """Return whether a machine takes in the bow behind those that are served."""
    barred = BARRED_WAYS[machines[machine]]
    bow = row[len(served)]
    return not any([served[j] == machine and way_of(row[j], bow) == barred for j in range(len(served))])
