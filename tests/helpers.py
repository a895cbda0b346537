"""What several test files share: odd values, bows, rows, the tables of the document."""

import copy
import random

from bowkinds import errors
from bowkinds.kinds import Kind
from bowkinds.rows import Row

WAYS = ["apart", "begun", "chained", "crossing", "ended", "same", "within"]
DIRECTIONS = [
    "after", "before", "crossed", "crosses", "finished", "finishes", "holds",
    "inside", "meets", "met", "same", "started", "starts",
]
# Each direction with its reverse and its way, in the order of the document.
PAIRS = [
    ("before", "after", "apart"), ("meets", "met", "chained"),
    ("crosses", "crossed", "crossing"), ("starts", "started", "begun"),
    ("finishes", "finished", "ended"), ("inside", "holds", "within"),
    ("same", "same", "same"),
]
REVERSES = {**{one: other for one, other, _ in PAIRS}, **{other: one for one, other, _ in PAIRS}}
WAY_OF = {**{one: way for one, _, way in PAIRS}, **{other: way for _, other, way in PAIRS}}
FAR = 10 ** 30


def deep(thing, depth, wrap):
    for _ in range(depth):
        thing = wrap(thing)
    return thing


def odd_values():
    """Values that are no integer, bow, way, direction, list or tuple of such."""
    return [
        None, True, False, "", "x", "Apart", "apart ", "(0, 1)", "line\nfeed",
        b"apart", {}, {"apart": 1}, {0: (0, 1)}, {(0, 1)}, {"apart"}, object(), len, int,
        errors.Wrong(0), errors.NoBow([1]), errors.Nothing(), Kind([]), Kind(["apart"]), Row([(5, 6)]),
        [None], [True], [[]], [[[]]], (None,), ((),), ["x"], "x" * 9999, [None] * 9999,
        {number: [number] for number in range(3000)},
        deep([], 29, lambda part: [part]), deep((), 29, lambda part: (part,)),
        deep((0, 1), 28, lambda part: [part]), deep("apart", 29, lambda part: (part,)),
        deep({}, 29, lambda part: {"same": part}),
    ]


def small_bows(many):
    """All bows with their places from 0 on below many."""
    return [(begin, end) for begin in range(many) for end in range(begin + 1, many)]


def holds_of(direction, one, other):
    """Whether the document's words for a direction hold from one to other."""
    (b, e), (c, f) = one, other
    words = {
        "before": e < c,
        "meets": e == c,
        "crosses": b < c < e < f,
        "starts": b == c and e < f,
        "finishes": e == f and b > c,
        "inside": b > c and e < f,
        "same": one == other,
    }
    if direction in words:
        return words[direction]
    return holds_of(REVERSES[direction], other, one)


def subsets(things):
    found = [[]]
    for thing in things:
        found += [some + [thing] for some in found]
    return found


def parts_of(indexes):
    """All lists of lists that hold each index once, as the document orders them."""
    if not indexes:
        return [[]]
    found = []
    for parts in parts_of(indexes[:-1]):
        found += [parts[:at] + [parts[at] + [indexes[-1]]] + parts[at + 1:] for at in range(len(parts))]
        found.append(parts + [[indexes[-1]]])
    return found


def fewest(row, are_one):
    """The least number of sets that are one (a layer, a crowd) and hold each bow once."""
    masks = 1 << len(row)
    lists = [[index for index in range(len(row)) if mask >> index & 1] for mask in range(masks)]
    one = [are_one(some) for some in lists]
    least = [0] * masks
    for mask in range(1, masks):
        least[mask] = min(1 + least[mask ^ part] for part in range(1, mask + 1)
                          if part & mask == part and one[part])
    return least[-1]


def greatest(row, are_one):
    """The greatest number of indexes that are one."""
    return max(len(some) for some in subsets(range(len(row))) if are_one(some))


def random_rows(seed, many, length, places):
    """Rows of so many bows with places from 0 on below a number."""
    chance = random.Random(seed)
    return [Row([chance.choice(small_bows(places)) for _ in range(length)]) for _ in range(many)]


def edge_rows():
    """A row without bows, with one, equal ones, ones far apart and below nought, the two rings of the document."""
    return [
        Row([]), Row([(0, 1)]), Row([(-3, -2)]), Row([(0, 1)] * 6), Row([(5, 9), (0, 1)] * 3),
        Row([(-FAR, FAR), (-FAR, 0), (0, FAR), (-FAR, FAR), (-5, -2)]),
        Row([(-FAR, 1 - FAR), (FAR - 1, FAR), (-9, -8), (-8, 3), (-9, 3)]),
        Row([(0, 1), (1, 3), (3, 4), (2, 3), (1, 2)]), Row([(0, 3), (4, 7), (1, 8), (2, 5), (6, 9)]),
        Row([(0, 9), (1, 8), (2, 7), (3, 6), (4, 5)]), Row([(at, at + 5) for at in range(6)]),
    ]


def short_rows():
    """Rows that can be looked through as a whole."""
    return edge_rows() + random_rows(1, 4, 5, 5) + random_rows(2, 3, 6, 4) + random_rows(3, 3, 7, 8)


def forty_rows():
    """Rows of forty bows, with more and fewer common ends."""
    found = random_rows(4, 1, 40, 5) + random_rows(5, 1, 40, 12) + random_rows(6, 1, 40, 60)
    return found + [Row([(-7, FAR)] * 40), Row([(at, at + 40) for at in range(40)]), Row(small_bows(10)[:40])]


def spread(row):
    """A row whose bows lie as those of the row, unevenly far apart, from below nought on."""
    places = row.places()
    news = {place: at ** 5 * 10 ** 9 - FAR if at % 3 else at ** 5 * 10 ** 9 - FAR + 1 for at, place in enumerate(places)}
    return Row([(news[begin], news[end]) for begin, end in row])


def spoilt(thing):
    """Change each list and each dict in what was returned."""
    if isinstance(thing, (list, tuple)):
        for part in thing:
            spoilt(part)
    if isinstance(thing, dict):
        thing.clear()
        thing["spoilt"] = True
    if isinstance(thing, list):
        thing.reverse()
        thing.append("spoilt")


def parts_that_change(thing):
    """The lists and dicts of what was returned, at every depth."""
    found = [thing] if isinstance(thing, (list, dict)) else []
    if isinstance(thing, (list, tuple)):
        for part in thing:
            found += parts_that_change(part)
    return found


def check_new(test, *asked):
    """Each of these calls gives anew, again and after the others, what it gave; nothing in it stands twice."""
    firsts = [ask() for ask in asked]
    kept = copy.deepcopy(firsts)
    every = [part for told in firsts for part in parts_that_change(told)]
    test.assertEqual(len({id(part) for part in every}), len(every))
    for told in firsts:
        spoilt(told)
    for _ in range(2):
        for ask, told in reversed(list(zip(asked, kept))):
            test.assertEqual(ask(), told)
