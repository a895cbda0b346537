"""[2] to [6], [9], [11], [12], [71]: bows that are left out, and weighty bows."""

import itertools
import unittest

from bowkinds.fewest import fewest_layers
from bowkinds.greatest import greatest_layer
from bowkinds.kinds import Kind, all_kinds
from bowkinds.layers import in_order, is_layer, is_layering
from bowkinds.leaving import fewest_left, is_left, left_out, left_values, weighty_bows
from bowkinds.rows import Row
from bowkinds.tight import is_tight, ring_for, tight_kinds
from bowkinds.trees import fewest_by_trying, layering_by_trying
from helpers import WAYS, check_new, edge_rows, fewest, odd_values, random_rows, short_rows, spread, subsets

RING = Row([(0, 1), (1, 3), (3, 4), (2, 3), (1, 2)])
CHAIN, FREE = Kind(["chained"]), Kind(["apart"])
SOME = [Kind([]), Kind(["same"]), FREE, ~FREE, CHAIN, ~CHAIN, Kind(["begun", "ended"]), ~Kind(["crossing"]),
        Kind(["crossing", "within"]), ~Kind(["same"]), Kind(WAYS)]


def values_by_hand(row, kind):
    """How many bows are left out for no layer, one, two and so on, by looking through all sets of bows."""
    needed = {}
    for some in subsets(range(len(row))):
        rest = row.only(some)
        many = fewest(rest, lambda layer: is_layer(rest, kind, layer))
        needed[many] = min(needed.get(many, len(row)), len(row) - len(some))
    return [min(needed[its] for its in needed if its <= many) for many in range(max(needed) + 1)]


def layers_without(row, kind, left):
    """Layers, by the indexes of the row, that hold all bows but those that are left."""
    kept = [index for index in range(len(row)) if index not in left]
    return [[kept[at] for at in layer] for layer in layering_by_trying(row.only(kept), kind)]


class LeavingTest(unittest.TestCase):
    def check(self, row, kind):
        values = left_values(row, kind)
        self.assertTrue(all(number.__class__ is int for number in values))
        self.assertEqual([values[0], values[-1]], [len(row), 0])
        self.assertNotIn(0, values[:-1])
        self.assertEqual(len(values) - 1, fewest_by_trying(row, kind))
        for many in [*range(len(values) + 2), 10 ** 20]:
            left = left_out(row, kind, many)
            right = values[many] if many < len(values) else 0
            self.assertEqual(repr(fewest_left(row, kind, many)), repr(right))
            self.assertEqual(len(left), right)
            self.assertEqual(left, sorted({*left}))
            layers = layers_without(row, kind, left)
            self.assertLessEqual(len(layers), many)
            self.assertIs(is_left(row, kind, many, left, layers), True)
        return values

    def test_short_rows(self):
        for row in short_rows():
            for kind in SOME:
                values = self.check(row, kind)
                if len(row) < 6:
                    self.assertEqual(values, values_by_hand(row, kind))

    def test_all_kinds(self):
        for row in random_rows(37, 1, 5, 5) + [RING]:
            for kind in all_kinds():
                self.assertEqual(self.check(row, kind), values_by_hand(row, kind))

    def test_ten_bows(self):
        for row in random_rows(38, 1, 10, 5) + random_rows(39, 1, 10, 12) + [Row([(4, 5)] * 10)]:
            for kind in SOME:
                values = self.check(row, kind)
                # One layer holds as many bows as a greatest layer has.
                if len(values) > 1:
                    self.assertEqual(values[1], 10 - len(greatest_layer(row, kind)))

    def test_a_row_without_bows(self):
        for kind in SOME:
            self.assertEqual(repr([left_values(Row([]), kind), weighty_bows(Row([]), kind)]), "[[0], []]")
            for many in (0, 1, 10 ** 20):
                self.assertEqual([left_out(Row([]), kind, many), fewest_left(Row([]), kind, many)], [[], 0])

    def test_equal_bows(self):
        row = Row([(-7, 10 ** 30)] * 4)
        for kind in SOME:
            self.assertEqual(left_values(row, kind), [4, 0] if "same" in kind else [4, 3, 2, 1, 0])
            self.assertEqual(left_out(row, kind, 0), [0, 1, 2, 3])
            self.assertEqual(weighty_bows(row, kind), [] if "same" in kind else [0, 1, 2, 3])

    def test_weighty_bows(self):
        for row in short_rows() + random_rows(40, 1, 10, 6):
            for kind in SOME:
                many = fewest_by_trying(row, kind)
                right = [index for index in range(len(row)) if fewest_by_trying(row.without(index), kind) < many]
                self.assertEqual(weighty_bows(row, kind), right)
        for kind in tight_kinds():
            row = random_rows(41, 1, 8, 5)[0]
            right = [index for index in range(8)
                     if fewest_layers(row.without(index), kind) < fewest_layers(row, kind)]
            self.assertEqual(weighty_bows(row, kind), right)

    def test_each_bow_of_a_ring_is_weighty(self):
        for kind in all_kinds():
            if not is_tight(kind):
                ring = Row(ring_for(kind))
                self.assertEqual([weighty_bows(ring, kind), left_values(ring, kind)], [[0, 1, 2, 3, 4], [5, 3, 1, 0]])

    def test_turned_rows_and_directions_alone(self):
        for row in short_rows():
            for kind in SOME:
                told = [left_values(row, kind), weighty_bows(row, kind)]
                back = row.turned()
                self.assertEqual([left_values(back, kind.turned()), weighty_bows(back, kind.turned())], told)
                for other in (spread(row), row.plain()):
                    self.assertEqual([left_values(other, kind), weighty_bows(other, kind)], told)

    def test_more_ways_never_leave_more_out(self):
        row = random_rows(42, 1, 7, 6)[0]
        told = [(kind, [fewest_left(row, kind, many) for many in range(4)]) for kind in all_kinds()[::2]]
        for kind, numbers in told:
            for other, its in told:
                if other.inside_of(kind):
                    self.assertTrue(all(one <= two for one, two in zip(numbers, its)))

    def test_what_is_told_is_new(self):
        for row in edge_rows() + random_rows(43, 1, 7, 5):
            bows = row.bows()
            for kind in (Kind([]), CHAIN, ~CHAIN, FREE, Kind(WAYS)):
                check_new(self, lambda: left_out(row, kind, 1), lambda: left_values(row, kind),
                          lambda: weighty_bows(row, kind), lambda: fewest_left(row, kind, 1),
                          lambda: left_out(row, kind, 0), lambda: left_out(row, kind, 10 ** 20),
                          lambda: left_values(Row(bows), Kind(kind.ways())))
            self.assertEqual(row.bows(), bows)

    def test_examples_of_the_document(self):
        self.assertEqual([left_values(RING, CHAIN), weighty_bows(RING, CHAIN)], [[5, 3, 1, 0], [0, 1, 2, 3, 4]])


class IsLeftTest(unittest.TestCase):
    def test_all_small_things(self):
        row = Row([(0, 1), (1, 3), (2, 5)])
        lists = [list(some) for many in range(4) for some in itertools.product(range(3), repeat=many)]
        for kind in (Kind([]), CHAIN, ~CHAIN, Kind(WAYS)):
            for left in lists:
                for number in range(3):
                    for layers in itertools.product(lists, repeat=number):
                        self.check(row, kind, left, list(layers))

    def check(self, row, kind, left, layers):
        every = sorted(left + [index for layer in layers for index in layer])
        right = every == [0, 1, 2] and left == sorted(left)
        right = right and all(layer and is_layer(row, kind, layer) for layer in layers)
        for many in (len(layers) - 1, len(layers), len(layers) + 1, 10 ** 20):
            if many >= 0:
                self.assertIs(is_left(row, kind, many, left, layers), right and len(layers) <= many)

    def test_layers_in_any_order(self):
        for layers in itertools.permutations([[0, 1], [2, 3], [4]]):
            self.assertIs(is_left(RING, CHAIN, 3, [], list(layers)), True)
            self.assertIs(is_left(RING, CHAIN, 2, [], list(layers)), False)
            self.assertIs(is_layering(RING, CHAIN, list(layers)), list(layers) == in_order(list(layers)))
        self.assertIs(is_left(RING, CHAIN, 2, [4], [[2, 3], [0, 1]]), True)

    def test_more_left_out_than_need_be(self):
        self.assertIs(is_left(RING, CHAIN, 2, [2, 3, 4], [[0, 1]]), True)
        self.assertIs(is_left(RING, CHAIN, 0, [0, 1, 2, 3, 4], []), True)
        self.assertIs(is_left(RING, CHAIN, 0, [0, 1, 2, 3], []), False)
        self.assertIs(is_left(RING, CHAIN, 10 ** 20, [1, 2, 3, 4], [[0]]), True)

    def test_a_row_without_bows(self):
        for kind in SOME:
            for many in (0, 1, 10 ** 20):
                self.assertIs(is_left(Row([]), kind, many, [], []), True)
                for left, layers in [([0], []), ([], [[]]), ((), []), ([], ()), ([], None), (None, []), ([], [[0]])]:
                    self.assertIs(is_left(Row([]), kind, many, left, layers), False)

    def test_wrong_values(self):
        left, layers = [1], [[2, 3], [0, 4]]
        self.assertIs(is_left(RING, CHAIN, 2, left, layers), True)
        wrong_left = [(1,), [], [True], [1, 1], [1, 4], [1, 5], [-1], ["1"], [[1]], {1: 1}, 1, "1", [4], [2],
                      list(range(9000)), [1] * 9000, [10 ** 800], [None], *odd_values()]
        wrong_layers = [
            ([2, 3], [0, 4]), [(2, 3), [0, 4]], [[3, 2], [0, 4]], [[2, 3], [0, 4], []], [[2, 3]], [[2, 3], [0, 3]],
            [[2, 3], [0, 4], [4]], [[2, 3], [0]], [[0, 2], [3, 4]], [[0, 2, 3, 4]], [[2, 3], [False, 4]], [[2, 3],
                                                                                                           None],
            [[2, 3], [0, 1, 4]], [[2, 3], [0, 5]], [[2, 3], ["0", "4"]], [[[2, 3], [0, 4]]], {2: 3}, [2, 3, 0, 4], [],
            [[2, 3], [0, 4]] * 2, [[2], [3], [0], [4]], [[2, 3]] * 3000, *odd_values(),
        ]
        for thing in wrong_left:
            self.assertIs(is_left(RING, CHAIN, 2, thing, layers), False, repr(thing)[:60])
        for thing in wrong_layers:
            self.assertIs(is_left(RING, CHAIN, 2, left, thing), False, repr(thing)[:60])
        self.assertIs(is_left(RING, CHAIN, 10 ** 20, [], [[2, 3], [True, 2]]), False)

    def test_what_is_asked_stays(self):
        left, layers = [1], [[2, 3], [0, 4]]
        self.assertIs(is_left(RING, CHAIN, 2, left, layers), True)
        self.assertEqual([left, layers], [[1], [[2, 3], [0, 4]]])
        left.clear()
        self.assertIs(is_left(RING, CHAIN, 2, left, layers), False)


if __name__ == "__main__":
    unittest.main()
