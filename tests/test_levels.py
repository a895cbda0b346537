"""[2] to [4], [11], [51]: levels, and long chains."""

import unittest

from bowkinds.chains import is_ahead
from bowkinds.levels import level_of, levels, long_chain
from bowkinds.orders import orders_of
from bowkinds.rows import Row
from helpers import FAR, WAYS, check_new, edge_rows, forty_rows, random_rows, short_rows, spread, subsets

ALL_ORDERS = [order for ways in subsets([way for way in WAYS if way != "same"]) for order in orders_of(ways)]
SOME_ORDERS = [[], ["before"], ["after"], ["before", "meets"], ["before", "crosses", "meets"], ["holds"],
               ["finishes", "inside", "starts"]]


def level_by_hand(row, order, index, same):
    """The most bows of a chain ahead of a bow, by looking through all sets of bows."""
    ahead = {(i, j): is_ahead(row, order, i, j, same=same) for i in range(len(row)) for j in range(len(row))}
    before = [i for i in range(len(row)) if ahead[i, index]]
    return max(len(some) for some in subsets(before)
               if all(ahead[i, j] or ahead[j, i] for i in some for j in some if i != j))


class LevelsTest(unittest.TestCase):
    def check(self, row, order, **named):
        told, chain = levels(row, order, **named), long_chain(row, order, **named)
        self.assertEqual(sorted(index for level in told for index in level), list(range(len(row))))
        number_by_index = {index: number for number, level in enumerate(told) for index in level}
        for number, level in enumerate(told):
            self.assertGreater(len(level), 0)
            self.assertEqual(level, sorted(level))
            for index in level:
                # Just above all that stand ahead of it.
                ahead = [number_by_index[i] for i in range(len(row)) if is_ahead(row, order, i, index, **named)]
                self.assertEqual(number, max(ahead, default=-1) + 1)
                self.assertEqual(repr(level_of(row, order, index, **named)), repr(number))
        self.assertIsInstance(chain, list)
        self.assertEqual(len(chain), len(told))
        for i, j in zip(chain, chain[1:]):
            self.assertIs(is_ahead(row, order, i, j, **named), True)

    def test_short_rows(self):
        for row in short_rows():
            for order in SOME_ORDERS:
                self.check(row, order)
                for same in (False, True):
                    self.check(row, order, same=same)
                    for index in range(len(row)):
                        told = level_of(row, order, index, same=same)
                        self.assertEqual(told, level_by_hand(row, order, index, same))

    def test_all_orders(self):
        for row in random_rows(9, 2, 6, 5):
            for order in ALL_ORDERS:
                self.check(row, order)
                self.check(row, order, same=True)

    def test_forty_bows(self):
        for row in forty_rows():
            for order in SOME_ORDERS:
                told = levels(row, order, same=True)
                self.assertEqual(len(long_chain(row, order, same=True)), len(told))
                self.assertEqual(sorted(sum(told, [])), list(range(40)))
        row = Row([(at, at + 1) for at in range(-40, 0)])
        self.check(row, ["before", "meets"])
        self.assertEqual(levels(row, ["after", "met"]), [[39 - at] for at in range(40)])
        self.assertEqual(long_chain(row, ["after", "met"]), list(range(39, -1, -1)))

    def test_a_row_without_bows(self):
        for order in SOME_ORDERS:
            for same in (False, True):
                self.assertEqual(levels(Row([]), order, same=same), [])
                self.assertEqual(long_chain(Row([]), order, same=same), [])

    def test_equal_bows(self):
        row = Row([(-2, FAR)] * 4)
        for order in SOME_ORDERS:
            self.assertEqual(levels(row, order), [[0, 1, 2, 3]])
            self.assertEqual(levels(row, order, same=True), [[0], [1], [2], [3]])
            self.assertEqual([level_of(row, order, 3), level_of(row, order, 3, same=True)], [0, 3])
            self.assertEqual(long_chain(row, order, same=True), [0, 1, 2, 3])
            self.assertEqual(len(long_chain(row, order)), 1)

    def test_long_chains_follow_the_order_and_not_the_indexes(self):
        row = Row([(6, 7), (3, 4), (0, 1)])
        self.assertEqual(long_chain(row, ["before"]), [2, 1, 0])
        self.assertEqual(long_chain(row, ["after"]), [0, 1, 2])
        self.assertEqual(levels(row, ["before"]), [[2], [1], [0]])

    def test_they_hang_on_directions_alone(self):
        for row in short_rows():
            for order in SOME_ORDERS:
                for other in (spread(row), row.plain()):
                    self.assertEqual(levels(row, order, same=True), levels(other, order, same=True))

    def test_what_is_told_is_new(self):
        for row in edge_rows() + random_rows(10, 1, 7, 6):
            order = ["before", "meets"]
            bows = row.bows()
            check_new(self, lambda: levels(row, order), lambda: long_chain(row, order),
                      lambda: levels(row, order, same=True), lambda: long_chain(row, order, same=True),
                      lambda: [level_of(row, order, index) for index in range(len(row))])
            self.assertEqual([row.bows(), order], [bows, ["before", "meets"]])

    def test_examples_of_the_document(self):
        three = Row([(0, 2), (1, 3), (2, 4)])
        told = [levels(three, ["before", "meets"]), level_of(three, ["before", "crosses", "meets"], 2)]
        self.assertEqual(told, [[[0, 1], [2]], 2])


if __name__ == "__main__":
    unittest.main()
