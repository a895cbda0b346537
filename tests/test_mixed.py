"""[2] to [6], [9], [11], [12], [72]: layers of one kind beside layers of another one."""

import itertools
import unittest

from bowkinds.kinds import Kind, all_kinds
from bowkinds.layers import in_order, is_layer
from bowkinds.leaving import left_values
from bowkinds.mixed import is_mixed, mixed_layering, mixed_values
from bowkinds.rows import Row
from bowkinds.tight import is_tight, ring_for
from bowkinds.trees import fewest_by_trying
from helpers import WAYS, check_new, edge_rows, fewest, odd_values, random_rows, short_rows, spread, subsets

RING = Row([(0, 1), (1, 3), (3, 4), (2, 3), (1, 2)])
CHAIN, FREE = Kind(["chained"]), Kind(["apart"])
SOME = [Kind([]), FREE, ~FREE, CHAIN, Kind(["begun", "ended"]), ~Kind(["crossing"]), ~Kind(["within"]),
        ~Kind(["same"]), Kind(WAYS)]


def values_by_hand(row, one, other):
    """The least numbers of layers of other, by looking through all sets of bows."""
    needed = []
    for some in subsets(range(len(row))):
        first, second = row.only(some), row.only([index for index in range(len(row)) if index not in some])
        needed.append((fewest(first, lambda layer: is_layer(first, one, layer)),
                       fewest(second, lambda layer: is_layer(second, other, layer))))
    values = []
    while not values or values[-1] > 0:
        values.append(min(its for many, its in needed if many <= len(values)))
    return values


class MixedTest(unittest.TestCase):
    def check(self, row, one, other):
        values = mixed_values(row, one, other)
        self.assertTrue(all(number.__class__ is int for number in values))
        self.assertEqual([values[0], values[-1]], [fewest_by_trying(row, other), 0])
        self.assertNotIn(0, values[:-1])
        self.assertEqual(len(values) - 1, fewest_by_trying(row, one))
        for many in [*range(len(values) + 2), 10 ** 20]:
            told = mixed_layering(row, one, other, many)
            self.assertIsInstance(told, tuple)
            self.assertEqual(len(told), 2)
            self.assertLessEqual(len(told[0]), many)
            self.assertEqual(len(told[1]), values[many] if many < len(values) else 0)
            self.assertEqual(sorted(index for layers in told for layer in layers for index in layer),
                             list(range(len(row))))
            for kind, layers in zip((one, other), told):
                self.assertIsInstance(layers, list)
                self.assertEqual(layers, in_order(layers))
                self.assertTrue(all(is_layer(row, kind, layer) for layer in layers))
            self.assertIs(is_mixed(row, one, other, told), True)
        return values

    def test_short_rows(self):
        for row in short_rows():
            for one in SOME:
                for other in SOME[::2]:
                    values = self.check(row, one, other)
                    if len(row) < 6 and one is not other:
                        self.assertEqual(values, values_by_hand(row, one, other))

    def test_all_kinds(self):
        row = random_rows(44, 1, 5, 5)[0]
        for one, other in zip(all_kinds(), all_kinds()[50:] + all_kinds()[:50]):
            self.assertEqual(self.check(row, one, other), values_by_hand(row, one, other))

    def test_ten_bows(self):
        for row in random_rows(45, 1, 10, 5) + random_rows(46, 1, 10, 12) + [Row([(4, 5)] * 10)]:
            for one, other in itertools.product(SOME[1::2], SOME[::3]):
                self.check(row, one, other)

    def test_a_row_without_bows(self):
        for one in SOME:
            for other in SOME:
                self.assertEqual(repr(mixed_values(Row([]), one, other)), "[0]")
                for many in (0, 1, 10 ** 20):
                    self.assertEqual(mixed_layering(Row([]), one, other, many), ([], []))

    def test_equal_bows(self):
        row = Row([(-7, 10 ** 30)] * 3)
        for one in SOME:
            for other in SOME:
                if "same" in one:
                    right = [1, 0] if "same" in other else [3, 0]
                else:
                    right = [1, 1, 1, 0] if "same" in other else [3, 2, 1, 0]
                self.assertEqual(mixed_values(row, one, other), right)

    def test_layers_of_one_bow_leave_it_out(self):
        # A layer of the kind without ways holds one bow: so as many are left out.
        for row in short_rows():
            for kind in SOME:
                if len({*row}) == len(row):
                    self.assertEqual(mixed_values(row, kind, Kind([])), left_values(row, kind))

    def test_one_kind_with_itself(self):
        for row in short_rows():
            for kind in SOME:
                many = fewest_by_trying(row, kind)
                self.assertEqual(mixed_values(row, kind, kind), list(range(many, -1, -1)))
        for kind in all_kinds():
            if not is_tight(kind):
                ring = Row(ring_for(kind))
                self.assertEqual([mixed_values(ring, kind, kind), mixed_values(ring, kind, ~kind)],
                                 [[3, 2, 1, 0], [3, 2, 1, 0]])

    def test_turned_rows_and_directions_alone(self):
        for row in short_rows():
            for one, other in zip(SOME, SOME[3:] + SOME[:3]):
                values = mixed_values(row, one, other)
                self.assertEqual(mixed_values(row.turned(), one.turned(), other.turned()), values)
                for same in (spread(row), row.plain()):
                    self.assertEqual(mixed_values(same, one, other), values)
                    self.assertEqual(mixed_layering(same, one, other, 1), mixed_layering(row, one, other, 1))

    def test_more_ways_never_need_more(self):
        row = random_rows(47, 1, 6, 6)[0]
        told = [(kind, mixed_values(row, FREE, kind)) for kind in all_kinds()[::2]]
        for kind, values in told:
            for other, its in told:
                if other.inside_of(kind):
                    self.assertTrue(all(one <= two for one, two in zip(values, its)))

    def test_what_is_told_is_new(self):
        for row in edge_rows() + random_rows(48, 1, 7, 5):
            bows = row.bows()
            for one, other in ((FREE, CHAIN), (CHAIN, ~CHAIN), (Kind([]), Kind(WAYS))):
                check_new(self, lambda: mixed_values(row, one, other), lambda: mixed_layering(row, one, other, 0),
                          lambda: mixed_layering(row, one, other, 1), lambda: mixed_layering(row, one, other, 10 ** 20),
                          lambda: mixed_values(row, other, one), lambda: mixed_values(Row(bows), Kind(one.ways()),
                                                                                      other))
            self.assertEqual(row.bows(), bows)

    def test_examples_of_the_document(self):
        self.assertEqual(mixed_values(RING, CHAIN, FREE), [3, 2, 1, 0])


class IsMixedTest(unittest.TestCase):
    def test_all_small_things(self):
        row = Row([(0, 1), (1, 3), (2, 5)])
        lists = [list(some) for many in range(4) for some in itertools.product(range(3), repeat=many)]
        layerings = [list(some) for many in range(3) for some in itertools.product(lists, repeat=many)]
        layerings = [layers for layers in layerings if sum(map(len, layers)) < 4]
        for first in layerings:
            for second in layerings:
                every = sorted(index for layer in first + second for index in layer)
                if len(every) == 3 or every == [0, 1]:
                    right = every == [0, 1, 2]
                    right = right and all(layer and is_layer(row, CHAIN, layer) for layer in first)
                    right = right and all(layer and is_layer(row, FREE, layer) for layer in second)
                    self.assertIs(is_mixed(row, CHAIN, FREE, (first, second)), right)

    def test_layers_in_any_order(self):
        for first in itertools.permutations([[0, 1], [2], [3, 4]]):
            self.assertIs(is_mixed(RING, CHAIN, FREE, (list(first), [])), True)
            self.assertIs(is_mixed(RING, FREE, CHAIN, ([], list(first))), True)
            self.assertIs(is_mixed(RING, FREE, CHAIN, (list(first), [])), False)

    def test_a_row_without_bows(self):
        for kind in SOME:
            self.assertIs(is_mixed(Row([]), kind, kind, ([], [])), True)
            for thing in [([[]], []), ([], [[]]), [[], []], ([],), ([], [], []), ([], ()), ((), []), ([], None),
                          ([[0]], [])]:
                self.assertIs(is_mixed(Row([]), kind, kind, thing), False)

    def test_wrong_values(self):
        right = ([[3, 4], [0, 1]], [[2]])
        self.assertIs(is_mixed(RING, CHAIN, FREE, right), True)
        wrong = [
            list(right), right[::-1], right[:1], (*right, []), ((*right[0],), right[1]), (right[0], ([2],)),
            ([(3, 4), [0, 1]], [[2]]), ([[4, 3], [0, 1]], [[2]]), ([[3, 4], [0, 1]], [[2], []]), ([[3, 4], [0, 1]], []),
            ([[3, 4], [0, 1], []], [[2]]), ([[3, 4], [0, 1]], [[2], [2]]), ([[3, 4], [0, 1, 2]], [[2]]),
            ([[3, 4], [0, 1]], [[2, 3]]), ([[3, 4], [False, True]], [[2]]), ([[3, 4], [0, True]], [[2]]),
            ([[3, 4], [0, 1]], [2]), ([3, 4, 0, 1], [[2]]), ([[3, 4], [0, 1]], [["2"]]), ([[3, 4], [0, 1]], [[5]]),
            ([[3, 4], [0, 1]], [[-3]]), ([[3, 4], [0, 1]], [[2], None]), (None, right[1]), (right[0], None),
            ([[3, 4], [0, 2]], [[1]]), (right, right), ([[3, 4]] * 3000, [[2]]), ({0: [3, 4]}, [[2]]), [right],
            *odd_values(),
        ]
        for thing in wrong:
            self.assertIs(is_mixed(RING, CHAIN, FREE, thing), False, repr(thing)[:60])
        for thing in odd_values():
            if thing != []:
                self.assertIs(is_mixed(RING, CHAIN, FREE, (right[0], thing)), False)
                self.assertIs(is_mixed(RING, CHAIN, FREE, (thing, right[1])), False)

    def test_what_is_asked_stays(self):
        thing = ([[3, 4], [0, 1]], [[2]])
        self.assertIs(is_mixed(RING, CHAIN, FREE, thing), True)
        self.assertEqual(thing, ([[3, 4], [0, 1]], [[2]]))
        thing[1].clear()
        self.assertIs(is_mixed(RING, CHAIN, FREE, thing), False)


if __name__ == "__main__":
    unittest.main()
