"""[2] to [4], [5], [9], [11], [12], [80]: kinds and rows compared."""

import unittest

from bowkinds.bows import way_of
from bowkinds.compared import (alike_for, is_showing, is_told, never_more, showing, telling_ways, unlike_pairs,
                               way_counts, ways_in)
from bowkinds.errors import BowError, Unlike
from bowkinds.fewest import fewest_layers
from bowkinds.kinds import Kind, all_kinds
from bowkinds.layers import is_layer, not_together
from bowkinds.rows import Row
from bowkinds.tight import is_tight, ring_for, tight_kinds
from bowkinds.trees import fewest_by_trying
from helpers import (FAR, WAYS, check_new, edge_rows, fewest, forty_rows, odd_values, random_rows, short_rows,
                     small_bows, spread)

RING = Row([(0, 1), (1, 3), (3, 4), (2, 3), (1, 2)])
CHAIN, FREE = Kind(["chained"]), Kind(["apart"])
SOME = [Kind([]), Kind(["same"]), FREE, ~FREE, CHAIN, ~CHAIN, Kind(["begun", "ended"]), ~Kind(["crossing"]),
        Kind(["crossing", "within"]), ~Kind(["same"]), Kind(WAYS)]


def needed(row, kind):
    return fewest(row, lambda some: is_layer(row, kind, some))


class NeverMoreTest(unittest.TestCase):
    def test_all_pairs_of_kinds(self):
        for one in all_kinds():
            for other in all_kinds():
                right = {*other.ways()} <= {*one.ways()}
                self.assertIs(never_more(one, other), right)
                told = showing(one, other)
                if right:
                    self.assertIsNone(told)
                else:
                    self.assertIsInstance(told, Row)
                    self.assertEqual(len(told), 2)
                    way = way_of(told[0], told[1])
                    self.assertEqual([way in one, way in other], [False, True])

    def test_what_is_shown_needs_more(self):
        for one in all_kinds()[::3]:
            for other in SOME:
                told = showing(one, other)
                if told is not None:
                    self.assertEqual([needed(told, one), needed(told, other)], [2, 1])
                    self.assertIs(is_showing(one, other, told), True)
                    self.assertIs(is_showing(other, one, told), False)

    def test_it_is_so_for_all_rows(self):
        for row in short_rows():
            told = [(kind, fewest_by_trying(row, kind)) for kind in all_kinds()[::2] + SOME]
            for one, many in told:
                for other, its in told:
                    if never_more(one, other):
                        self.assertLessEqual(many, its)
                        self.assertIs(is_showing(one, other, row), False)

    def test_it_is_so_for_long_rows(self):
        for row in forty_rows()[:3]:
            told = [(kind, fewest_layers(row, kind)) for kind in tight_kinds()]
            for one, many in told:
                self.assertTrue(all(many <= its for other, its in told if never_more(one, other)))

    def test_one_kind_and_itself(self):
        for kind in all_kinds():
            self.assertIs(never_more(kind, Kind(kind.ways())), True)
            self.assertIsNone(showing(kind, kind))

    def test_what_is_told_is_new(self):
        one, other = Kind(["apart", "same"]), Kind(["within"])
        first = showing(one, other)
        first.bows().append((5, 6))
        self.assertEqual(showing(one, other), first)
        self.assertIsNot(showing(one, other), first)
        self.assertEqual([one.ways(), other.ways()], [["apart", "same"], ["within"]])


class IsShowingTest(unittest.TestCase):
    def test_rows_looked_through(self):
        for row in random_rows(51, 6, 4, 4) + random_rows(52, 3, 5, 5) + [Row([]), Row([(-FAR, FAR)]), RING]:
            told = [(kind, needed(row, kind)) for kind in SOME + all_kinds()[60:70]]
            for one, many in told:
                for other, its in told:
                    self.assertIs(is_showing(one, other, row), many > its)

    def test_ten_bows_and_eleven(self):
        for row in random_rows(53, 2, 10, 6) + [Row([(0, 1)] * 10), Row([(at, at + 1) for at in range(0, 20, 2)])]:
            for one, other in zip(SOME, SOME[1:] + SOME[:1]):
                right = fewest_by_trying(row, one) > fewest_by_trying(row, other)
                self.assertIs(is_showing(one, other, row), right)
                self.assertIs(is_showing(one, other, row.put((0, 1))), False)
        apart = Row([(at, at + 1) for at in range(0, 22, 2)])
        for many in range(2, 14):
            self.assertIs(is_showing(Kind([]), FREE, Row(apart.bows()[:many])), many <= 10)
        self.assertIs(is_showing(Kind([]), FREE, Row(small_bows(100))), False)

    def test_bows_of_no_weight_beside(self):
        row = Row([(0, 1), (0, 2), (0, 1), (7, 9), (4, 9)])
        self.assertEqual([needed(row, CHAIN), needed(row, Kind(["ended"]))], [5, 4])
        self.assertIs(is_showing(CHAIN, Kind(["ended"]), row), True)
        self.assertIs(is_showing(Kind(["ended"]), CHAIN, row), False)

    def test_rings(self):
        for kind in all_kinds():
            if not is_tight(kind):
                ring = Row(ring_for(kind))
                self.assertIs(is_showing(kind, ~kind, ring), False)
                self.assertIs(is_showing(kind, Kind(WAYS), ring), True)

    def test_wrong_values(self):
        two = [(0, 1), (2, 3)]
        self.assertIs(is_showing(CHAIN, FREE, Row(two)), True)
        for thing in [two, tuple(two), [Row(two)], (Row(two),), {0: Row(two)}, FREE, *odd_values()]:
            self.assertIs(is_showing(CHAIN, FREE, thing), False)

    def test_far_bows(self):
        row = Row([(-FAR, 1 - FAR), (FAR - 1, FAR)])
        self.assertIs(is_showing(CHAIN, FREE, row), True)
        self.assertEqual(row.bows(), [(-FAR, 1 - FAR), (FAR - 1, FAR)])


class CountsTest(unittest.TestCase):
    def test_counts_by_hand(self):
        for row in short_rows() + forty_rows() + [Row(small_bows(4))]:
            counts = way_counts(row)
            pairs = [(i, j) for i in range(len(row)) for j in range(len(row)) if i < j]
            right = {}
            for i, j in pairs:
                way = way_of(row[i], row[j])
                right[way] = right.get(way, 0) + 1
            self.assertEqual(counts, right)
            self.assertEqual(list(counts), sorted(right))
            self.assertTrue(all(many.__class__ is int for many in counts.values()))
            self.assertEqual(ways_in(row), sorted(right))

    def test_no_pairs(self):
        for row in (Row([]), Row([(0, 1)])):
            self.assertEqual(repr([way_counts(row), ways_in(row)]), "[{}, []]")

    def test_equal_bows(self):
        self.assertEqual(way_counts(Row([(-FAR, FAR)] * 40)), {"same": 780})

    def test_turned_and_spread(self):
        for row in short_rows():
            counts = way_counts(row)
            turned = way_counts(row.turned())
            for way in WAYS:
                its = {"begun": "ended", "ended": "begun"}.get(way, way)
                self.assertEqual(turned.get(its, 0), counts.get(way, 0))
            self.assertEqual([way_counts(spread(row)), way_counts(row.plain())], [counts, counts])

    def test_what_is_told_is_new(self):
        for row in edge_rows():
            check_new(self, lambda: way_counts(row), lambda: ways_in(row), lambda: ways_in(row.turned()))


class AlikeForTest(unittest.TestCase):
    def test_all_kinds(self):
        for row in random_rows(54, 2, 4, 4) + [Row([(0, 1), (1, 2), (1, 2)]), RING]:
            told = [(kind, not_together(row, kind)) for kind in all_kinds()]
            for one, pairs in told:
                for other, its in told[::3]:
                    self.assertIs(alike_for(row, one, other), pairs == its)

    def test_edges(self):
        for one in SOME:
            for other in SOME:
                self.assertIs(alike_for(Row([]), one, other), True)
                self.assertIs(alike_for(Row([(0, 1)]), one, other), True)
                # A bow and itself are no two indexes; equal bows are.
                right = ("same" in one) == ("same" in other)
                self.assertIs(alike_for(Row([(0, 1), (0, 1)]), one, other), right)

    def test_forty_bows(self):
        for row in forty_rows():
            for one, other in zip(SOME, SOME[2:] + SOME[:2]):
                self.assertIs(alike_for(row, one, other), not_together(row, one) == not_together(row, other))


class UnlikeTest(unittest.TestCase):
    def rows(self):
        rows = random_rows(55, 4, 5, 4) + random_rows(56, 2, 5, 9) + [Row([(3, 4)] * 5), RING]
        return rows + [spread(RING), RING.turned(), Row([(-FAR, FAR), (0, FAR), (-FAR, 0), (1, 2), (-3, 5)])]

    def test_pairs_by_hand(self):
        for row in self.rows():
            for other in self.rows():
                right = []
                for i in range(5):
                    for j in range(i + 1, 5):
                        ways = (way_of(row[i], row[j]), way_of(other[i], other[j]))
                        if ways[0] != ways[1]:
                            right.append((i, j, *ways))
                told = unlike_pairs(row, other)
                self.assertEqual(told, sorted(right))
                self.assertTrue(all(isinstance(pair, tuple) for pair in told))
                self.assertEqual(telling_ways(row, other), sorted({way for pair in right for way in pair[2:]}))
                for kind in SOME:
                    self.assertIs(is_told(kind, row, other), not_together(row, kind) != not_together(other, kind))

    def test_rows_that_lie_alike(self):
        for row in edge_rows() + forty_rows():
            for other in (row, row.plain(), row.moved(-7), spread(row)):
                self.assertEqual(repr([unlike_pairs(row, other), telling_ways(row, other)]), "[[], []]")
                self.assertIs(is_told(FREE, row, other), False)

    def test_directions_of_one_way_are_alike(self):
        one, other = Row([(0, 1), (2, 3)]), Row([(2, 3), (0, 1)])
        self.assertEqual([unlike_pairs(one, other), telling_ways(one, other)], [[], []])

    def test_forty_bows(self):
        one, other = Row([(at, at + 1) for at in range(40)]), Row([(0, 1)] * 40)
        told = unlike_pairs(one, other)
        self.assertEqual(len(told), 780)
        self.assertEqual(told[:2] + told[-1:], [(0, 1, "chained", "same"), (0, 2, "apart", "same"),
                                                (38, 39, "chained", "same")])
        self.assertEqual(telling_ways(one, other), ["apart", "chained", "same"])

    def test_kinds_that_tell(self):
        one, other = Row([(0, 1), (2, 3), (5, 6)]), Row([(0, 2), (2, 3), (1, 6)])
        ways = telling_ways(one, other)
        self.assertEqual(ways, ["apart", "chained", "crossing", "within"])
        for kind in all_kinds():
            bars = [way in kind for way in ("apart", "chained", "crossing", "within")]
            # Each pair was apart and now lies in one of the other three ways.
            self.assertIs(is_told(kind, one, other), len({*bars}) > 1)

    def test_unlike_numbers_of_bows(self):
        rows = [Row([]), Row([(0, 1)]), Row([(0, 1)] * 2), RING, forty_rows()[0], Row(forty_rows()[0].bows()[:39])]
        for row in rows:
            for other in rows:
                if row is other:
                    continue
                bows, its = row.bows(), other.bows()
                for asked in (lambda: unlike_pairs(row, other), lambda: telling_ways(row, other),
                              lambda: is_told(FREE, row, other), lambda: is_told(Kind([]), row, other)):
                    with self.assertRaises(BowError) as caught:
                        asked()
                    self.assertIs(caught.exception.__class__, Unlike)
                self.assertEqual([row.bows(), other.bows()], [bows, its])

    def test_what_is_told_is_new(self):
        for other in (RING.turned(), spread(RING), Row([(1, 2)] * 5)):
            check_new(self, lambda: unlike_pairs(RING, other), lambda: telling_ways(RING, other),
                      lambda: unlike_pairs(other, RING), lambda: is_told(CHAIN, RING, other))

    def test_examples_of_the_document(self):
        told = [never_more(CHAIN, FREE), len(showing(CHAIN, FREE)), ways_in(RING)]
        self.assertEqual(told, [False, 2, ["apart", "begun", "chained", "ended"]])


if __name__ == "__main__":
    unittest.main()
