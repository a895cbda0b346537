"""[2] to [4], [11], [50]: chains, and bows none of which stands ahead of another."""

import unittest

from bowkinds.bows import direction_of
from bowkinds.chains import chains, is_ahead, unordered
from bowkinds.orders import orders_of
from bowkinds.rows import Row
from helpers import (FAR, REVERSES, WAYS, check_new, edge_rows, fewest, forty_rows, greatest, random_rows, short_rows,
                     spread, subsets)

ALL_ORDERS = [order for ways in subsets([way for way in WAYS if way != "same"]) for order in orders_of(ways)]
SOME_ORDERS = [[], ["before"], ["after"], ["before", "meets"], ["before", "crosses", "meets"], ["inside"], ["starts"],
               ["finishes", "inside", "starts"], ["finished", "holds", "started"]]


def ahead_by_hand(row, order, i, j, same):
    return direction_of(row[i], row[j]) in order or (same is True and row[i] == row[j] and i < j)


def is_chain(row, order, some, same):
    return all(ahead_by_hand(row, order, i, j, same) or ahead_by_hand(row, order, j, i, same)
               for i in some for j in some if i < j)


def is_free(row, order, some, same):
    return not any(ahead_by_hand(row, order, i, j, same) for i in some for j in some)


class AheadTest(unittest.TestCase):
    def test_all_orders(self):
        row = Row([(0, 3), (1, 4), (0, 3), (3, 5), (4, 5), (0, 5), (6, 7)])
        for order in ALL_ORDERS:
            for i in range(7):
                for j in range(7):
                    for same in (False, True):
                        told = is_ahead(row, order, i, j, same=same)
                        self.assertIs(told, ahead_by_hand(row, order, i, j, same))
                    self.assertIs(is_ahead(row, order, i, j), ahead_by_hand(row, order, i, j, False))

    def test_equal_bows(self):
        row = Row([(0, 1), (-FAR, FAR), (0, 1)])
        for order in SOME_ORDERS:
            told = [is_ahead(row, order, 0, 2), is_ahead(row, order, 0, 2, same=True)]
            told += [is_ahead(row, order, 2, 0, same=True), is_ahead(row, order, 0, 2, same=False)]
            self.assertEqual(repr(told), repr([False, True, False, False]))

    def test_none_stands_ahead_of_itself(self):
        for row in short_rows():
            for index in range(len(row)):
                for order in SOME_ORDERS:
                    self.assertIs(is_ahead(row, order, index, index), False)
                    self.assertIs(is_ahead(row, order, index, index, same=True), False)

    def test_bows_far_apart_and_below_nought(self):
        row = Row([(-FAR, 1 - FAR), (-7, -2), (FAR - 1, FAR), (-2, FAR)])
        self.assertIs(is_ahead(row, ["before"], 0, 2), True)
        self.assertIs(is_ahead(row, ["before"], 2, 0), False)
        self.assertIs(is_ahead(row, ["before"], 1, 3), False)
        self.assertIs(is_ahead(row, ["before", "meets"], 1, 3), True)
        self.assertIs(is_ahead(row, ["holds"], 3, 2), False)
        self.assertIs(is_ahead(row, ["finished"], 3, 2), True)

    def test_it_is_an_order(self):
        for row in short_rows():
            some = range(len(row))
            for order in SOME_ORDERS:
                for same in (False, True):
                    ahead = {(i, j) for i in some for j in some if is_ahead(row, order, i, j, same=same)}
                    self.assertFalse(any((j, i) in ahead for i, j in ahead))
                    self.assertTrue(all((i, k) in ahead for i, j in ahead for its, k in ahead if its == j))


class ChainsTest(unittest.TestCase):
    def check(self, row, order, **named):
        same = named.get("same", False)
        told, free = chains(row, order, **named), unordered(row, order, **named)
        self.assertIsInstance(told, list)
        self.assertEqual(sorted(index for chain in told for index in chain), list(range(len(row))))
        for chain in told:
            self.assertGreater(len(chain), 0)
            self.assertEqual(chain, sorted(chain))
            self.assertTrue(is_chain(row, order, chain, same))
        self.assertEqual(told, sorted(told))
        self.assertEqual(free, sorted({*free}))
        self.assertTrue({*free} <= {*range(len(row))})
        self.assertTrue(is_free(row, order, free, same))
        # As many of both: so there are neither fewer chains nor more free bows.
        self.assertEqual(len(free), len(told))
        self.assertTrue(all(index.__class__ is int for index in free))
        return len(told)

    def test_short_rows(self):
        for row in short_rows():
            for order in SOME_ORDERS:
                for same in (False, True):
                    many = self.check(row, order, same=same)
                    if len(row) < 6:
                        self.assertEqual(many, fewest(row, lambda some: is_chain(row, order, some, same)))
                        self.assertEqual(many, greatest(row, lambda some: is_free(row, order, some, same)))
                self.assertEqual(chains(row, order), chains(row, order, same=False))
                self.assertEqual(unordered(row, order), unordered(row, order, same=False))

    def test_all_orders(self):
        for row in random_rows(7, 2, 6, 5) + [Row([(0, 1)] * 3)]:
            for order in ALL_ORDERS:
                many = self.check(row, order)
                self.check(row, order, same=True)
                back = sorted(REVERSES[direction] for direction in order)
                self.assertEqual(len(chains(row, back)), many)

    def test_forty_bows(self):
        for row in forty_rows():
            for order in SOME_ORDERS:
                self.check(row, order)
                self.check(row, order, same=True)

    def test_a_row_without_bows(self):
        for order in SOME_ORDERS:
            for same in (False, True):
                self.assertEqual(chains(Row([]), order, same=same), [])
                self.assertEqual(unordered(Row([]), order, same=same), [])

    def test_equal_bows(self):
        row = Row([(3, 4)] * 5)
        for order in SOME_ORDERS:
            self.assertEqual(chains(row, order), [[0], [1], [2], [3], [4]])
            self.assertEqual(unordered(row, order), [0, 1, 2, 3, 4])
            self.assertEqual(chains(row, order, same=True), [[0, 1, 2, 3, 4]])
            self.assertEqual(len(unordered(row, order, same=True)), 1)

    def test_no_directions(self):
        for row in short_rows():
            self.assertEqual(chains(row, []), [[index] for index in range(len(row))])
            self.assertEqual(len(chains(row, [], same=True)), len({*row}))

    def test_bows_give_way_to_each_other(self):
        # Who takes the first free bow leaves one without: 0 ahead of 2 and 3, 1 ahead of 2 alone.
        row = Row([(0, 1), (0, 5), (6, 7), (2, 3)])
        self.assertEqual(chains(row, ["before"]), [[0, 3], [1, 2]])

    def test_they_hang_on_directions_alone(self):
        for row in short_rows() + forty_rows()[1:3]:
            for order in SOME_ORDERS[:5]:
                for other in (spread(row), row.plain()):
                    self.assertEqual(chains(row, order), chains(other, order))
                    self.assertEqual(unordered(row, order, same=True), unordered(other, order, same=True))

    def test_what_is_told_is_new(self):
        for row in edge_rows() + random_rows(8, 1, 7, 6):
            order = ["before", "meets"]
            bows = row.bows()
            check_new(self, lambda: chains(row, order), lambda: unordered(row, order),
                      lambda: chains(row, order, same=True), lambda: unordered(row, order, same=True),
                      lambda: chains(Row(bows), list(order)))
            self.assertEqual([row.bows(), order], [bows, ["before", "meets"]])

    def test_examples_of_the_document(self):
        three = Row([(0, 2), (1, 3), (2, 4)])
        told = [chains(three, ["before", "meets"]), len(unordered(three, ["before", "meets"]))]
        self.assertEqual(told, [[[0, 2], [1]], 2])


if __name__ == "__main__":
    unittest.main()
