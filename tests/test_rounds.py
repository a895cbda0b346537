"""[2] to [6], [9], [11], [60]: rounds, two layers, what hangs together."""

import itertools
import unittest

from bowkinds.errors import BowError, NoBow
from bowkinds.kinds import Kind, all_kinds
from bowkinds.layers import is_layering, together
from bowkinds.rounds import barred_from, in_two, is_round, linked, many_in_two, round_of, two_layers
from bowkinds.rows import Row
from bowkinds.tight import is_tight, ring_for
from helpers import (WAYS, check_new, edge_rows, forty_rows, odd_values, parts_of, random_rows, short_rows, small_bows,
                     spread)

RING = Row([(0, 1), (1, 3), (3, 4), (2, 3), (1, 2)])
LINKS = Kind(["chained"])
SOME = [Kind([]), Kind(["same"]), Kind(["apart"]), ~Kind(["apart"]), LINKS, ~LINKS, Kind(["begun", "ended"]),
        ~Kind(["crossing"]), ~Kind(["within"]), Kind(["crossing", "within"]), ~Kind(["same"]), Kind(WAYS)]


def round_by_hand(row, kind, thing):
    pairs = zip(thing, thing[1:] + thing[:1])
    return len(thing) % 2 == 1 and len(thing) > 2 and not any(together(row, kind, i, j) for i, j in pairs)


def least_round(row, kind):
    """The number of the members of a least round, by looking through all lists."""
    for many in range(3, len(row) + 1, 2):
        for some in itertools.combinations(range(len(row)), many):
            if any(round_by_hand(row, kind, [some[0], *rest]) for rest in itertools.permutations(some[1:])):
                return many
    return None


class BarredTest(unittest.TestCase):
    def test_barred_from(self):
        for row in short_rows():
            for kind in SOME:
                for index in range(len(row)):
                    right = [j for j in range(len(row)) if j != index and not together(row, kind, index, j)]
                    self.assertEqual(barred_from(row, kind, index), right)

    def test_what_is_no_index(self):
        for row in (Row([]), Row([(0, 1)]), RING, forty_rows()[0]):
            bows = row.bows()
            wrong = [len(row), -1, 10 ** 30, "0", "", [0], (0,), None, True, False, b"0", slice(0, 1), *odd_values()]
            for kind in (Kind([]), LINKS, Kind(WAYS)):
                ways = kind.ways()
                for thing in wrong:
                    with self.assertRaises(BowError) as caught:
                        barred_from(row, kind, thing)
                    self.assertIs(caught.exception.__class__, NoBow)
                    self.assertIs(caught.exception.index, thing)
                self.assertEqual([row.bows(), kind.ways()], [bows, ways])

    def test_linked(self):
        for row in short_rows() + forty_rows()[:3]:
            for kind in SOME:
                told = linked(row, kind)
                self.assertEqual(sorted(index for part in told for index in part), list(range(len(row))))
                self.assertEqual(told, sorted(sorted(part) for part in told))
                for part in told:
                    # From the first one on, each is reached within the part, and nothing beyond.
                    reached, before = {part[0]}, set()
                    while reached != before:
                        before = reached
                        reached = reached | {j for index in reached for j in barred_from(row, kind, index)}
                    self.assertEqual(sorted(reached), part)

    def test_linked_edges(self):
        self.assertEqual(linked(Row([]), Kind([])), [])
        self.assertEqual(linked(Row([(0, 1)] * 3), Kind([])), [[0, 1, 2]])
        self.assertEqual(linked(Row([(0, 1)] * 3), Kind(["same"])), [[0], [1], [2]])
        # Not all from each other, but one from the next.
        row = Row([(0, 2), (20, 30), (4, 6), (1, 3), (25, 40), (5, 7), (2, 5)])
        self.assertEqual(linked(row, Kind(["apart", "chained"])), [[0, 2, 3, 5, 6], [1, 4]])


class RoundTest(unittest.TestCase):
    def check(self, row, kind):
        told, layers = round_of(row, kind), two_layers(row, kind)
        self.assertIs(told is None, layers is not None)
        if told is None:
            self.assertIs(is_layering(row, kind, layers), True)
            are_barred = any(barred_from(row, kind, index) for index in range(len(row)))
            self.assertEqual(len(layers), 2 if are_barred else min(1, len(row)))
        else:
            self.assertIsInstance(told, list)
            self.assertTrue(round_by_hand(row, kind, told))
            self.assertIs(is_round(row, kind, told), True)
            self.assertEqual(len({*told}), len(told))
        return None if told is None else len(told)

    def test_short_rows(self):
        for row in short_rows():
            for kind in SOME:
                many = self.check(row, kind)
                if len(row) < 7:
                    self.assertEqual(many, least_round(row, kind))

    def test_all_kinds(self):
        for row in random_rows(17, 2, 5, 5) + [RING]:
            for kind in all_kinds():
                self.assertEqual(self.check(row, kind), least_round(row, kind))

    def test_forty_bows(self):
        for row in forty_rows():
            for kind in SOME:
                self.check(row, kind)

    def test_greater_rounds(self):
        # Each bow crosses just the one before it and the one behind it; the last one, around all, its two ends.
        for many in (4, 6, 8, 38):
            row = Row([(3 * at, 3 * at + 4) for at in range(many)] + [(-1, 3 * many + 5)])
            kind = ~Kind(["crossing"])
            self.assertEqual(self.check(row, kind), None)
            row = Row([(3 * at, 3 * at + 4) for at in range(many)] + [(1, 3 * many)])
            self.assertEqual(self.check(row, kind), many + 1)
            told = round_of(row, kind)
            for at in range(many + 1):
                self.assertIs(is_round(row, kind, told[at:] + told[:at]), True)
            self.assertIs(is_round(row, kind, told[::-1]), True)
            self.assertIs(is_round(row, kind, told[1:] + [told[1]]), False)
            self.assertIs(is_round(row, kind, told[:-2]), False)

    def test_bows_that_hang_on_a_round_are_none_of_it(self):
        ring = [(30 * at, 30 * at + 40) for at in range(6)] + [(10, 180)]
        tail = [(-20, 5), (-50, -15), (-80, -45)]
        kind = ~Kind(["crossing"])
        for bows in (ring + tail, tail + ring, ring + tail[::-1], tail[::-1] + ring[::-1], tail[:2] + ring + tail[2:]):
            row = Row(bows)
            self.assertEqual(self.check(row, kind), 7)
            self.assertEqual(sorted(row.only(round_of(row, kind))), sorted(ring))

    def test_rings(self):
        for kind in all_kinds():
            if not is_tight(kind):
                ring = Row(ring_for(kind))
                self.assertEqual(self.check(ring, kind), 5)
                self.assertIs(is_round(ring, kind, [0, 2, 4, 1, 3]), True)
                self.assertIs(is_round(ring, kind, [0, 1, 2, 3, 4]), False)
                self.assertEqual([linked(ring, kind), many_in_two(ring, kind)], [[[0, 1, 2, 3, 4]], 0])

    def test_rounds_may_be_crossed(self):
        # All five are barred from each other: so each list of three or five is a round.
        row = Row([(0, 1)] * 5)
        for many in range(6):
            for some in itertools.permutations(range(5), many):
                self.assertIs(is_round(row, Kind([]), list(some)), many in (3, 5))
                self.assertIs(is_round(row, Kind(["same"]), list(some)), False)

    def test_all_lists(self):
        row = random_rows(18, 1, 5, 4)[0]
        for kind in SOME:
            for many in range(6):
                for some in itertools.product(range(5), repeat=many):
                    right = len({*some}) == many and round_by_hand(row, kind, list(some))
                    self.assertIs(is_round(row, kind, list(some)), right)

    def test_wrong_values(self):
        row = Row([(0, 1)] * 5)
        self.assertIs(is_round(row, Kind([]), [0, 1, 2]), True)
        wrong = [
            (0, 1, 2), [], [0], [0, 0, 0], [0, 1], [0, 1, 0], [0, 1, 2, 3], [0, 1, 1], [0, True, 2], [False, 1, 2],
            [0, 1, "2"], [0, 1, 5], [-1, 0, 1], [0, 1, None], [0, 1, [2]], [0, 1, (2,)], [[0, 1, 2]],
            {0: 1, 1: 2, 2: 0}, "012", [0, 1, 2, 3, 4, 0, 1], list(range(9999)), [0] * 9999, [0, 1, 10 ** 800],
            row, [(0, 1)] * 3, *odd_values(),
        ]
        for thing in wrong:
            self.assertIs(is_round(row, Kind([]), thing), False, repr(thing)[:60])
        for thing in [[], [0], [0, 1, 2], *odd_values()]:
            self.assertIs(is_round(Row([]), Kind([]), thing), False)

    def test_a_row_without_bows(self):
        for kind in SOME:
            row = Row([])
            told = [round_of(row, kind), two_layers(row, kind), linked(row, kind), many_in_two(row, kind)]
            self.assertEqual(repr(told), "[None, [], [], 1]")

    def test_they_hang_on_directions_alone_and_are_turned_with_the_row(self):
        for row in short_rows():
            for kind in SOME:
                for other in (spread(row), row.plain()):
                    self.assertEqual(round_of(row, kind), round_of(other, kind))
                    self.assertEqual(two_layers(row, kind), two_layers(other, kind))
                self.assertEqual(round_of(row, kind), round_of(row.turned(), kind.turned()))
                self.assertEqual(linked(row, kind), linked(row.turned(), kind.turned()))

    def test_what_is_told_is_new(self):
        for row in edge_rows() + random_rows(19, 1, 7, 5):
            bows = row.bows()
            for kind in (Kind([]), LINKS, ~LINKS, Kind(WAYS)):
                asked = [lambda: round_of(row, kind), lambda: two_layers(row, kind), lambda: linked(row, kind),
                         lambda: many_in_two(row, kind), lambda: two_layers(Row(bows), Kind(kind.ways()))]
                if len(row):
                    asked += [lambda: barred_from(row, kind, 0), lambda: in_two(row, kind, 0, len(row) - 1)]
                check_new(self, *asked)
            self.assertEqual(row.bows(), bows)

    def test_what_is_asked_stays(self):
        thing = [0, 2, 4, 1, 3]
        self.assertIs(is_round(RING, LINKS, thing), True)
        self.assertEqual(thing, [0, 2, 4, 1, 3])
        thing.pop()
        self.assertIs(is_round(RING, LINKS, thing), False)

    def test_examples_of_the_document(self):
        told = [two_layers(RING, LINKS), len(round_of(RING, LINKS)), is_round(RING, LINKS, [0, 2, 4, 1, 3])]
        self.assertEqual(told, [None, 5, True])
        four = Row([(0, 1), (2, 3), (0, 5), (7, 9)])
        told = [two_layers(four, ~LINKS), in_two(four, LINKS, 0, 1), two_layers(Row([(0, 1), (1, 2)]), LINKS),
                in_two(Row([(0, 1), (1, 2), (5, 6)]), LINKS, 0, 2)]
        self.assertEqual(told, [[[0, 1, 2, 3]], "none", [[0, 1]], "two"])


class InTwoTest(unittest.TestCase):
    def test_all_layerings_looked_through(self):
        words = set()
        for row in [row for row in short_rows() if len(row) < 7] + random_rows(20, 6, 4, 6):
            parts = [layers for layers in parts_of(list(range(len(row)))) if len(layers) < 3]
            for kind in SOME + [Kind(["apart", "chained"]), ~Kind(["apart", "same"])]:
                layerings = [layers for layers in parts if is_layering(row, kind, layers)]
                self.assertEqual(repr(many_in_two(row, kind)), repr(len(layerings)))
                for i, j in itertools.permutations(range(len(row)), 2):
                    told = in_two(row, kind, i, j)
                    words.add(told)
                    self.assertEqual(told, self.by_hand(layerings, i, j))
        self.assertEqual(words, {"one", "two", "free", "none"})

    def by_hand(self, layerings, i, j):
        sorts = {any(i in layer and j in layer for layer in layers) for layers in layerings}
        return {(): "none", (False,): "two", (True,): "one", (False, True): "free"}[tuple(sorted(sorts))]

    def test_forty_bows(self):
        row = Row([(at, at + 40) for at in range(40)])
        self.assertEqual(many_in_two(row, Kind(["crossing", "chained"])), 2 ** 39)
        self.assertEqual(in_two(row, Kind(["crossing"]), 0, 39), "free")
        self.assertEqual(many_in_two(row, Kind([])), 0)
        # Each bow crosses the next one alone, so their layers are in turn the one and the other.
        row = Row([(3 * at, 3 * at + 4) for at in range(40)])
        kind = ~Kind(["crossing"])
        self.assertEqual([many_in_two(row, kind), linked(row, kind)], [1, [list(range(40))]])
        self.assertEqual(two_layers(row, kind), [list(range(0, 40, 2)), list(range(1, 40, 2))])
        self.assertEqual([in_two(row, kind, 0, 38), in_two(row, kind, 39, 0)], ["one", "two"])
        self.assertEqual(many_in_two(Row(small_bows(10)[:40]), Kind(WAYS)), 2 ** 39)


if __name__ == "__main__":
    unittest.main()
