"""[2] to [6], [8], [9], [11], [12], [70]: greatest and full layers."""

import unittest

from bowkinds.fewest import held
from bowkinds.greatest import full_layers, greatest_layer, greatest_layers, is_greatest
from bowkinds.kinds import Kind, all_kinds
from bowkinds.layers import is_crowd, is_layer, is_layering
from bowkinds.rows import Row
from bowkinds.tight import is_tight, ring_for, tight_kinds
from helpers import (WAYS, check_new, edge_rows, forty_rows, odd_values, parts_of, random_rows, short_rows, spread,
                     subsets)

RING = Row([(0, 1), (1, 3), (3, 4), (2, 3), (1, 2)])
CHAIN, FREE = Kind(["chained"]), Kind(["apart"])
SOME = [Kind([]), Kind(["same"]), FREE, ~FREE, CHAIN, ~CHAIN, Kind(["begun", "ended"]), ~Kind(["crossing"]),
        ~Kind(["within"]), Kind(["crossing", "within"]), ~Kind(["same"]), Kind(WAYS)]


def layers_by_hand(row, kind):
    return [some for some in subsets(range(len(row))) if is_layer(row, kind, some)]


def full_by_hand(row, kind):
    others = {tuple(some): [index for index in range(len(row)) if index not in some]
              for some in layers_by_hand(row, kind)}
    return sorted(list(some) for some in others
                  if not any(is_layer(row, kind, sorted([*some, index])) for index in others[some]))


class LayersTest(unittest.TestCase):
    def check(self, row, kind):
        layers = layers_by_hand(row, kind)
        many = max(map(len, layers))
        self.assertEqual(greatest_layers(row, kind), sorted(some for some in layers if len(some) == many))
        self.assertEqual(full_layers(row, kind), full_by_hand(row, kind))
        self.assertIn(greatest_layer(row, kind), greatest_layers(row, kind))

    def test_short_rows(self):
        for row in short_rows():
            for kind in SOME:
                self.check(row, kind)

    def test_all_kinds(self):
        for row in random_rows(31, 2, 5, 5) + [RING]:
            for kind in all_kinds():
                self.check(row, kind)

    def test_ten_bows(self):
        for row in random_rows(32, 1, 10, 5) + random_rows(33, 1, 10, 12) + [Row([(0, 1)] * 10)]:
            for kind in SOME:
                self.check(row, kind)
            for kind in all_kinds():
                layer = greatest_layer(row, kind)
                self.assertIs(is_layer(row, kind, layer), True)
                self.assertIn(layer, greatest_layers(row, kind))
                # Ascending lists, each of which stands among the full ones.
                full = full_layers(row, kind)
                self.assertEqual(full, sorted(full))
                self.assertTrue(all(layer in full for layer in greatest_layers(row, kind)))

    def test_a_row_without_bows(self):
        for kind in all_kinds():
            told = [greatest_layer(Row([]), kind), greatest_layers(Row([]), kind), full_layers(Row([]), kind)]
            self.assertEqual(told, [[], [[]], [[]]])

    def test_equal_bows(self):
        row = Row([(-7, 10 ** 30)] * 3)
        for kind in all_kinds():
            right = [[0, 1, 2]] if "same" in kind else [[0], [1], [2]]
            self.assertEqual([greatest_layers(row, kind), full_layers(row, kind)], [right, right])
            self.assertEqual(len(greatest_layer(row, kind)), len(right[0]))

    def test_forty_bows_by_tight_kinds(self):
        for row in forty_rows():
            for kind in tight_kinds():
                layer, crowds = greatest_layer(row, kind), held(row, kind)
                self.assertIs(is_layer(row, kind, layer), True)
                # As many crowds as it has bows: so no layer has more.
                self.assertEqual(len(crowds), len(layer))
                self.assertIs(is_greatest(row, kind, layer, crowds), True)

    def test_fewest_crowds_of_short_rows(self):
        for row in short_rows() + random_rows(34, 2, 10, 6):
            for kind in tight_kinds():
                self.assertIs(is_greatest(row, kind, greatest_layers(row, kind)[0], held(row, kind)), True)
        for kind in all_kinds():
            if not is_tight(kind):
                ring = Row(ring_for(kind))
                self.assertEqual(len(greatest_layer(ring, kind)), 2)
                crowds = [parts for parts in parts_of([0, 1, 2, 3, 4]) if is_layering(ring, ~kind, parts)]
                for layer in greatest_layers(ring, kind):
                    self.assertFalse(any(is_greatest(ring, kind, layer, parts) for parts in crowds))

    def test_turned_rows_and_directions_alone(self):
        for row in short_rows():
            for kind in SOME:
                self.assertEqual(full_layers(row.turned(), kind.turned()), full_layers(row, kind))
                self.assertEqual(greatest_layers(row.turned(), kind.turned()), greatest_layers(row, kind))
                for other in (spread(row), row.plain()):
                    self.assertEqual(full_layers(other, kind), full_layers(row, kind))
                    self.assertEqual(greatest_layer(other, kind), greatest_layer(row, kind))

    def test_more_ways_never_make_less_of_the_greatest(self):
        for row in random_rows(35, 2, 7, 6):
            told = [(kind, len(greatest_layer(row, kind))) for kind in all_kinds()]
            for kind, many in told:
                self.assertTrue(all(its <= many for other, its in told if other.inside_of(kind)))

    def test_what_is_told_is_new(self):
        for row in edge_rows() + random_rows(36, 1, 7, 5):
            bows = row.bows()
            for kind in (Kind([]), CHAIN, ~CHAIN, FREE, Kind(WAYS)):
                check_new(self, lambda: greatest_layer(row, kind), lambda: greatest_layers(row, kind),
                          lambda: full_layers(row, kind), lambda: full_layers(Row(bows), Kind(kind.ways())))
            self.assertEqual(row.bows(), bows)

    def test_examples_of_the_document(self):
        told = [greatest_layers(RING, CHAIN), full_layers(RING, FREE)]
        self.assertEqual(told, [[[0, 1], [0, 4], [1, 2], [2, 3], [3, 4]], [[0, 2], [0, 3], [1], [2, 4]]])
        self.assertIs(is_greatest(RING, FREE, [0, 2], [[0, 1, 4], [2, 3]]), True)


class IsGreatestTest(unittest.TestCase):
    def test_all_layers_and_crowds(self):
        row = Row([(0, 1), (1, 3), (0, 1), (2, 5)])
        for kind in all_kinds():
            for layer in subsets(range(4)):
                for crowds in parts_of([0, 1, 2, 3]):
                    right = is_layer(row, kind, layer) and all(is_crowd(row, kind, some) for some in crowds)
                    right = right and len(layer) == len(crowds)
                    self.assertIs(is_greatest(row, kind, layer, crowds), right)

    def test_a_row_without_bows(self):
        for kind in all_kinds():
            self.assertIs(is_greatest(Row([]), kind, [], []), True)
            for layer, crowds in [([0], []), ([], [[]]), ((), []), ([], ()), ([0], [[0]]), (None, [])]:
                self.assertIs(is_greatest(Row([]), kind, layer, crowds), False)

    def test_wrong_values(self):
        layer, crowds = [0, 2], [[0, 1, 4], [2, 3]]
        wrong_layers = [(0, 2), [2, 0], [0, 0], [0], [], [0, 1], [0, 2, 3], [False, 2], [0, 5], [-1, 0], ["0", "2"],
                        {0: 2}, [[0, 2]], list(range(9000)), [0] * 9000, *odd_values()]
        wrong_crowds = [
            ([0, 1, 4], [2, 3]), [(0, 1, 4), [2, 3]], [[2, 3], [0, 1, 4]], [[1, 0, 4], [2, 3]], [[0, 1, 4], [3, 2]],
            [[0, 1, 4], [2, 3], []], [[], [0, 1, 4], [2, 3]], [[0, 1, 4], [2]], [[0, 1], [2, 3]], [[0, 1, 4], [2, 3,
                                                                                                               4]],
            [[0, 1, 4], [2, 3], [2]], [[0, 1, 2, 4], [3]], [[0, 1], [2, 3], [4]], [[0, 1, 4], [2, 3, 5]], [],
            [[0, True, 4], [2, 3]], [[False, 1, 4], [2, 3]], [[0, 1, 4], [2, "3"]], [0, 1, 4, 2, 3], {0: [0, 1, 4]},
            [[0]] * 9000, [[0, 1, 4], None], [[0, 1, 3], [2, 4]], *odd_values(),
        ]
        self.assertIs(is_greatest(RING, FREE, layer, crowds), True)
        for thing in wrong_layers:
            self.assertIs(is_greatest(RING, FREE, thing, crowds), False, repr(thing)[:60])
        for thing in wrong_crowds:
            self.assertIs(is_greatest(RING, FREE, layer, thing), False, repr(thing)[:60])

    def test_what_is_asked_stays(self):
        layer, crowds = [0, 2], [[0, 1, 4], [2, 3]]
        self.assertIs(is_greatest(RING, FREE, layer, crowds), True)
        self.assertEqual([layer, crowds], [[0, 2], [[0, 1, 4], [2, 3]]])
        crowds[0].append(5)
        self.assertIs(is_greatest(RING, FREE, layer, crowds), False)


if __name__ == "__main__":
    unittest.main()
