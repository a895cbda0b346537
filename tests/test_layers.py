"""[2] to [5], [9], [11], [32]: layers, crowds, layerings."""

import unittest

from bowkinds.bows import way_of
from bowkinds.kinds import Kind, all_kinds
from bowkinds.layers import in_order, is_crowd, is_layer, is_layering, not_together, together
from bowkinds.rows import Row
from helpers import FAR, WAYS, odd_values, parts_of, small_bows, subsets

FOUR = Row([(0, 1), (1, 3), (0, 1), (2, 5)])
SOME = [Kind([]), Kind(["apart"]), ~Kind(["apart"]), Kind(["same"]), ~Kind(["same"]), Kind(["chained", "same"]),
        Kind(["crossing", "within"]), Kind(WAYS)]


class TogetherTest(unittest.TestCase):
    def test_together(self):
        for kind in all_kinds():
            for i in range(4):
                for j in range(4):
                    told = together(FOUR, kind, i, j)
                    self.assertIs(told, way_of(FOUR[i], FOUR[j]) in kind.ways())
                    self.assertIs(told, together(FOUR, kind, j, i))

    def test_a_bow_and_itself_lie_as_same(self):
        for i in range(4):
            self.assertIs(together(FOUR, Kind(["same"]), i, i), True)
            self.assertIs(together(FOUR, ~Kind(["same"]), i, i), False)

    def test_not_together(self):
        pairs = [(i, j) for i in range(4) for j in range(4) if i < j]
        self.assertEqual(not_together(FOUR, Kind([])), pairs)
        self.assertEqual(not_together(FOUR, Kind(WAYS)), [])
        self.assertEqual(not_together(Row([]), Kind([])), [])
        self.assertEqual(not_together(Row([(0, 1)]), Kind([])), [])
        self.assertEqual(not_together(FOUR, ~Kind(["same"])), [(0, 2)])
        self.assertEqual(not_together(FOUR, Kind(["same"])), [pair for pair in pairs if pair != (0, 2)])
        self.assertEqual(not_together(FOUR, ~Kind(["apart"])), [(0, 3), (2, 3)])
        for kind in SOME:
            told = not_together(FOUR, kind)
            both = sorted(told + not_together(FOUR, ~kind))
            self.assertEqual(both, pairs)
            told.append((9, 9))
            self.assertNotEqual(told, not_together(FOUR, kind))

    def test_forty_bows(self):
        row = Row(small_bows(10)[:40])
        right = [(i, j) for i in range(40) for j in range(40) if i < j and way_of(row[i], row[j]) == "crossing"]
        self.assertEqual(not_together(row, ~Kind(["crossing"])), right)


class LayerTest(unittest.TestCase):
    def test_layers_and_crowds(self):
        for kind in all_kinds():
            for indexes in subsets([0, 1, 2, 3]):
                ways = [way_of(FOUR[i], FOUR[j]) for i in indexes for j in indexes if i < j]
                self.assertIs(is_layer(FOUR, kind, indexes), all(way in kind for way in ways))
                self.assertIs(is_crowd(FOUR, kind, indexes), not any(way in kind for way in ways))

    def test_the_empty_list_is_both(self):
        for kind in SOME:
            for row in (Row([]), FOUR):
                self.assertIs(is_layer(row, kind, []), True)
                self.assertIs(is_crowd(row, kind, []), True)

    def test_a_bow_alone_is_both(self):
        for kind in SOME:
            self.assertIs(is_layer(FOUR, kind, [3]), True)
            self.assertIs(is_crowd(FOUR, kind, [3]), True)

    def test_wrong_values(self):
        wrong = [
            [1, 0], [0, 0], [0, 4], [4], [-1], [-1, 0], (0, 1), (), [True], [False], [False, 1], [0, True],
            ["0"], [[0]], [(0,)], {0: 1}, {0}, 0, "01", [0, None], [0] * 9000, list(range(9000)),
            FOUR, [(0, 1)], [10 ** 800], *odd_values(),
        ]
        for kind in (Kind([]), Kind(WAYS)):
            for thing in wrong:
                self.assertIs(is_layer(FOUR, kind, thing), False)
                self.assertIs(is_crowd(FOUR, kind, thing), False)
        self.assertIs(is_layer(Row([]), Kind(WAYS), [0]), False)

    def test_they_hang_on_directions_alone(self):
        far = Row([(place ** 5 - FAR, its ** 5 - FAR) for place, its in FOUR])
        for kind in SOME:
            self.assertEqual(not_together(FOUR, kind), not_together(far, kind))
            self.assertEqual(not_together(FOUR, kind), not_together(FOUR.plain(), kind))
            self.assertEqual(not_together(FOUR, kind), not_together(FOUR.turned(), kind.turned()))


class LayeringTest(unittest.TestCase):
    def test_layerings(self):
        for kind in all_kinds():
            for layers in parts_of([0, 1, 2, 3]):
                right = all(is_layer(FOUR, kind, layer) for layer in layers)
                self.assertIs(is_layering(FOUR, kind, layers), right)

    def test_a_row_without_bows(self):
        for kind in SOME:
            self.assertIs(is_layering(Row([]), kind, []), True)
            for thing in [[[]], (), [[0]], [[], []], *odd_values()]:
                self.assertIs(is_layering(Row([]), kind, thing), False)

    def test_wrong_values(self):
        wrong = [
            [], [[0, 1, 2]], [[0, 1, 2, 3], []], [[], [0, 1, 2, 3]], [[0, 1], [1, 2, 3]], [[0, 1], [0, 2, 3]],
            [[0, 1, 2, 3], [0]], [[0, 1, 2, 3], [0, 1, 2, 3]], [[1, 2, 3], [0]], [[0, 3, 2, 1]],
            [[0, 2], [3], [1]], [[0, 1, 2, 3, 4]], [[0, 1, 2], [4]], ([0, 1, 2, 3],), [(0, 1, 2, 3)],
            [[False, 1, 2, 3]], [[0, True, 2, 3]], [[0, 1, 2, "3"]], [0, 1, 2, 3], [[[0, 1, 2, 3]]],
            [[0, 1, 2, 3], None], {0: [0, 1, 2, 3]}, [[0]] * 9000, FOUR, [FOUR], *odd_values(),
        ]
        for kind in (Kind([]), Kind(WAYS)):
            for thing in wrong:
                self.assertIs(is_layering(FOUR, kind, thing), False, repr(thing)[:60])
        self.assertIs(is_layering(FOUR, Kind(WAYS), [[0, 1, 2, 3]]), True)
        self.assertIs(is_layering(FOUR, Kind([]), [[0], [1], [2], [3]]), True)
        self.assertIs(is_layering(FOUR, Kind([]), [[0], [2], [1], [3]]), False)

    def test_what_is_asked_stays(self):
        thing = [[0, 2], [1], [3]]
        self.assertIs(is_layering(FOUR, Kind(["same"]), thing), True)
        self.assertEqual(thing, [[0, 2], [1], [3]])
        thing[0].append(4)
        self.assertIs(is_layering(FOUR, Kind(["same"]), thing), False)

    def test_no_layering_has_fewer_layers_than_a_crowd_has_bows(self):
        for kind in all_kinds():
            layerings = [layers for layers in parts_of([0, 1, 2, 3]) if is_layering(FOUR, kind, layers)]
            crowds = [indexes for indexes in subsets([0, 1, 2, 3]) if is_crowd(FOUR, kind, indexes)]
            self.assertGreaterEqual(min(map(len, layerings)), max(map(len, crowds)))

    def test_in_order(self):
        self.assertEqual(in_order([]), [])
        self.assertEqual(in_order([[], []]), [])
        self.assertEqual(in_order([[3, 1], [], [2, 0]]), [[0, 2], [1, 3]])
        self.assertEqual(in_order([[10], [9, 11], [2]]), [[2], [9, 11], [10]])
        self.assertEqual(in_order([[39 - at] for at in range(40)]), [[at] for at in range(40)])
        given = [[3, 1], [], [2, 0]]
        told = in_order(given)
        told[0].append(9)
        self.assertEqual(given, [[3, 1], [], [2, 0]])
        kept = [[0], [1]]
        told = in_order(kept)
        told[0].clear()
        told.clear()
        self.assertEqual(kept, [[0], [1]])

    def test_examples_of_the_document(self):
        row, apart = Row([(0, 20), (10, 30), (20, 40)]), Kind(["apart"])
        more = apart | Kind(["chained"])
        told = [not_together(row, apart), is_crowd(row, apart, [0, 1, 2]), is_layering(row, more, [[0, 2], [1]])]
        self.assertEqual(told, [[(0, 1), (0, 2), (1, 2)], True, True])


if __name__ == "__main__":
    unittest.main()
