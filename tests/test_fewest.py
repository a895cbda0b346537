"""[3] to [12], [53]: fewest layers and greatest crowds by tight kinds."""

import unittest

from bowkinds.errors import BowError, NotTight
from bowkinds.fewest import crowd_of, fewest_layers, held, is_shown, layering_of
from bowkinds.kinds import Kind, all_kinds
from bowkinds.layers import is_crowd, is_layer, is_layering
from bowkinds.rows import Row
from bowkinds.tight import is_tight, ring_for, tight_kinds
from helpers import (WAYS, check_new, edge_rows, fewest, forty_rows, greatest, odd_values, parts_of, random_rows,
                     short_rows, spread, subsets)

THREE = Row([(0, 2), (1, 3), (2, 4)])
ENDS = Kind(["begun", "ended"])


def loose_kinds():
    return [kind for kind in all_kinds() if not is_tight(kind)]


class FewestTest(unittest.TestCase):
    def check(self, row, kind):
        layers, crowd, crowds = layering_of(row, kind), crowd_of(row, kind), held(row, kind)
        self.assertIs(is_layering(row, kind, layers), True)
        self.assertIs(is_crowd(row, kind, crowd), True)
        self.assertEqual(len(layers), len(crowd))
        self.assertEqual(repr(fewest_layers(row, kind)), repr(len(layers)))
        self.assertIs(is_shown(row, kind, (layers, crowd)), True)
        # A crowd is a layer of the other kind.
        self.assertIs(is_layering(row, ~kind, crowds), True)
        for some in crowds:
            self.assertIs(is_crowd(row, kind, some), True)
        self.assertEqual(len(crowds), len(crowd_of(row, ~kind)))

    def test_short_rows(self):
        for row in short_rows():
            for kind in tight_kinds():
                self.check(row, kind)

    def test_forty_bows(self):
        for row in forty_rows():
            for kind in tight_kinds():
                self.check(row, kind)

    def test_all_layers_and_crowds_looked_through(self):
        for row in random_rows(14, 3, 6, 5):
            for kind in tight_kinds():
                self.assertEqual(fewest_layers(row, kind), fewest(row, lambda some: is_layer(row, kind, some)))
                self.assertEqual(fewest_layers(row, kind), greatest(row, lambda some: is_crowd(row, kind, some)))
                self.assertEqual(len(held(row, kind)), greatest(row, lambda some: is_layer(row, kind, some)))
                self.assertEqual(len(held(row, kind)), fewest(row, lambda some: is_crowd(row, kind, some)))

    def test_a_row_without_bows(self):
        for kind in tight_kinds():
            self.assertEqual(repr(fewest_layers(Row([]), kind)), "0")
            self.assertEqual([layering_of(Row([]), kind), crowd_of(Row([]), kind), held(Row([]), kind)], [[], [], []])

    def test_equal_bows(self):
        row = Row([(-9, 3)] * 4)
        for kind in tight_kinds():
            one, four = [[0, 1, 2, 3]], [[0], [1], [2], [3]]
            self.assertEqual(layering_of(row, kind), one if "same" in kind else four)
            self.assertEqual(held(row, kind), four if "same" in kind else one)
            self.assertEqual(len(crowd_of(row, kind)), 1 if "same" in kind else 4)

    def test_common_ends_kept_and_lacked(self):
        row = Row([(0, 1), (0, 2), (0, 3), (1, 3), (2, 3), (4, 5), (4, 5)])
        same = Kind(["same"])
        told = [fewest_layers(row, kind) for kind in (ENDS, ENDS | same, ~ENDS, ~ENDS - same)]
        self.assertEqual(told, [4, 3, 3, 3])
        told = [len(held(row, kind)) for kind in (ENDS, ENDS | same, ~ENDS, ~ENDS - same)]
        self.assertEqual(told, [3, 3, 4, 3])

    def test_the_kinds_of_no_way_and_of_all(self):
        for row in short_rows():
            self.assertEqual(fewest_layers(row, Kind([])), len(row))
            self.assertEqual(crowd_of(row, Kind([])), list(range(len(row))))
            self.assertEqual(fewest_layers(row, Kind(WAYS)), min(1, len(row)))
            self.assertEqual(fewest_layers(row, Kind(["same"])), len({*row}))

    def test_kinds_that_are_not_tight(self):
        rows = [Row([]), Row([(0, 1)]), THREE, forty_rows()[0]]
        for kind in loose_kinds():
            for row in rows + [Row(ring_for(kind))]:
                bows, ways = row.bows(), kind.ways()
                for asked in (fewest_layers, layering_of, crowd_of, held):
                    with self.assertRaises(BowError) as caught:
                        asked(row, kind)
                    self.assertIs(caught.exception.__class__, NotTight)
                self.assertEqual([row.bows(), kind.ways()], [bows, ways])

    def test_rings_need_a_layer_more(self):
        for kind in loose_kinds():
            row = Row(ring_for(kind))
            layerings = [layers for layers in parts_of([0, 1, 2, 3, 4]) if is_layering(row, kind, layers)]
            crowds = [some for some in subsets(range(5)) if is_crowd(row, kind, some)]
            self.assertEqual([min(map(len, layerings)), max(map(len, crowds))], [3, 2])
            self.assertFalse(any(is_shown(row, kind, (layers, some)) for layers in layerings for some in crowds))

    def test_rows_seen_from_behind(self):
        for row in short_rows():
            for kind in tight_kinds():
                self.assertEqual(fewest_layers(row.turned(), kind.turned()), fewest_layers(row, kind))
                self.assertEqual(len(held(row.turned(), kind.turned())), len(held(row, kind)))

    def test_they_hang_on_directions_alone(self):
        for row in short_rows():
            for kind in tight_kinds():
                for other in (spread(row), row.plain()):
                    self.assertEqual(fewest_layers(other, kind), fewest_layers(row, kind))
                    told = (layering_of(row, kind), crowd_of(row, kind))
                    self.assertIs(is_shown(other, kind, told), True)

    def test_a_kind_with_all_ways_of_another_never_needs_more(self):
        for row in short_rows() + random_rows(15, 3, 12, 6):
            told = [(kind, fewest_layers(row, kind)) for kind in tight_kinds()]
            for kind, many in told:
                for other, its in told:
                    if other.inside_of(kind):
                        self.assertLessEqual(many, its)

    def test_equal_kinds_tell_the_same(self):
        for kind in tight_kinds():
            again = Kind(kind.ways()[::-1] + kind.ways())
            self.assertEqual(layering_of(THREE, again), layering_of(THREE, kind))
            self.assertEqual(crowd_of(THREE, again), crowd_of(THREE, kind))

    def test_what_is_told_is_new(self):
        for row in edge_rows() + random_rows(16, 1, 7, 5):
            bows = row.bows()
            for kind in (Kind([]), Kind(["apart"]), ~Kind(["apart"]), ENDS, ~ENDS, ENDS | Kind(["same"]), Kind(WAYS)):
                check_new(self, lambda: layering_of(row, kind), lambda: crowd_of(row, kind), lambda: held(row, kind),
                          lambda: fewest_layers(row, kind), lambda: layering_of(Row(bows), Kind(kind.ways())))
            self.assertEqual(row.bows(), bows)

    def test_examples_of_the_document(self):
        told = [fewest_layers(THREE, Kind(["apart"])), layering_of(THREE, Kind(["apart", "chained"]))]
        self.assertEqual(told, [3, [[0, 2], [1]]])


class ShownTest(unittest.TestCase):
    def test_all_layerings_and_crowds(self):
        row = Row([(0, 1), (1, 3), (0, 1), (2, 5)])
        for kind in all_kinds():
            for layers in parts_of([0, 1, 2, 3]):
                for some in subsets(range(4)):
                    right = is_layering(row, kind, layers) and is_crowd(row, kind, some) and len(layers) == len(some)
                    self.assertIs(is_shown(row, kind, (layers, some)), right)

    def test_a_row_without_bows(self):
        for kind in all_kinds():
            self.assertIs(is_shown(Row([]), kind, ([], [])), True)
            for thing in [([[]], []), ([], [[]]), ([[]], [0]), [[], []], ([], ()), ((), [])]:
                self.assertIs(is_shown(Row([]), kind, thing), False)

    def test_kinds_that_are_not_tight(self):
        row = Row([(0, 1), (1, 2), (5, 6)])
        self.assertIs(is_shown(row, Kind(["chained"]), ([[0, 1], [2]], [0, 2])), True)
        self.assertIs(is_shown(row, Kind(["chained"]), ([[0, 1], [2]], [0, 1])), False)

    def test_wrong_values(self):
        right = ([[0, 2], [1]], [0, 1])
        kind = Kind(["apart", "chained"])
        self.assertIs(is_shown(THREE, kind, right), True)
        wrong = [
            list(right), right[:1], (*right, []), right[::-1], ([[1], [0, 2]], [0, 1]), ([[0, 2], [1]], [1, 0]),
            ([[0, 2], [1]], [0]), ([[0, 2], [1]], [0, 0]), ([[0, 2], [1]], (0, 1)), (([0, 2], [1]), [0, 1]),
            ([[0, 2], [True]], [0, 1]), ([[0, 2], [1]], [False, True]), ([[0, 2], [1]], [0, True]),
            ([[0, 2], [1]], [0, 2]), ([[0], [1], [2]], [0, 1]), ([[0, 2], [1], []], [0, 1]), ([[0, 2]], [0, 1]),
            ([[0, 2], [1]], [0, 3]), ([[0, 2], [1]], [-1, 0]), (right, right), [right], ([[0, 2], [1]], {0: 1, 1: 1}),
            ([[0]] * 4999, [0] * 4999), ([[0, 2], [1]], list(range(9000))), *odd_values(),
        ]
        for thing in wrong:
            self.assertIs(is_shown(THREE, kind, thing), False, repr(thing)[:60])
        for thing in odd_values():
            self.assertIs(is_shown(THREE, kind, ([[0, 2], [1]], thing)), False)
            self.assertIs(is_shown(THREE, kind, (thing, [0, 1])), False)

    def test_what_is_asked_stays(self):
        thing = ([[0, 2], [1]], [0, 1])
        self.assertIs(is_shown(THREE, Kind(["apart", "chained"]), thing), True)
        self.assertEqual(thing, ([[0, 2], [1]], [0, 1]))
        thing[1].pop()
        self.assertIs(is_shown(THREE, Kind(["apart", "chained"]), thing), False)


if __name__ == "__main__":
    unittest.main()
