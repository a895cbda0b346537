"""What several test files share: odd values, small bows, the tables of the document."""

from bowkinds import errors
from bowkinds.kinds import Kind
from bowkinds.rows import Row

WAYS = ["apart", "begun", "chained", "crossing", "ended", "same", "within"]
DIRECTIONS = [
    "after", "before", "crossed", "crosses", "finished", "finishes", "holds",
    "inside", "meets", "met", "same", "started", "starts",
]
# Each direction with its reverse and its way, in the order of the document.
PAIRS = [
    ("before", "after", "apart"), ("meets", "met", "chained"),
    ("crosses", "crossed", "crossing"), ("starts", "started", "begun"),
    ("finishes", "finished", "ended"), ("inside", "holds", "within"),
    ("same", "same", "same"),
]
REVERSES = {**{one: other for one, other, _ in PAIRS}, **{other: one for one, other, _ in PAIRS}}
WAY_OF = {**{one: way for one, _, way in PAIRS}, **{other: way for _, other, way in PAIRS}}
FAR = 10 ** 30


def deep(thing, depth, wrap):
    for _ in range(depth):
        thing = wrap(thing)
    return thing


def odd_values():
    """Values that are no integer, bow, way, direction, list or tuple of such."""
    return [
        None, True, False, "", "x", "Apart", "apart ", "(0, 1)", "line\nfeed",
        b"apart", {}, {"apart": 1}, {0: (0, 1)}, {(0, 1)}, {"apart"}, object(), len, int,
        errors.Wrong(0), errors.NoBow([1]), errors.Nothing(), Kind([]), Kind(["apart"]), Row([(5, 6)]),
        [None], [True], [[]], [[[]]], (None,), ((),), ["x"], "x" * 9999, [None] * 9999,
        {number: [number] for number in range(3000)},
        deep([], 29, lambda part: [part]), deep((), 29, lambda part: (part,)),
        deep((0, 1), 28, lambda part: [part]), deep("apart", 29, lambda part: (part,)),
        deep({}, 29, lambda part: {"same": part}),
    ]


def small_bows(many):
    """All bows with their places from 0 on below many."""
    return [(begin, end) for begin in range(many) for end in range(begin + 1, many)]


def holds_of(direction, one, other):
    """Whether the document's words for a direction hold from one to other."""
    (b, e), (c, f) = one, other
    words = {
        "before": e < c,
        "meets": e == c,
        "crosses": b < c < e < f,
        "starts": b == c and e < f,
        "finishes": e == f and b > c,
        "inside": b > c and e < f,
        "same": one == other,
    }
    if direction in words:
        return words[direction]
    return holds_of(REVERSES[direction], other, one)


def subsets(things):
    found = [[]]
    for thing in things:
        found += [some + [thing] for some in found]
    return found
