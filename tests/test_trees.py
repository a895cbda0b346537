"""[2] to [6], [9], [11], [12], [61]: fewest layers by trying, all layerings, trees."""

import unittest
from unittest import mock

from bowkinds.fewest import fewest_layers
from bowkinds.kinds import Kind, all_kinds
from bowkinds.layers import is_crowd, is_layer, is_layering, together
from bowkinds.rounds import two_layers
from bowkinds.rows import Row
from bowkinds.tight import is_tight, ring_for, tight_kinds
from bowkinds.trees import fewest_by_trying, is_tree, layering_by_trying, layerings, leaves, tree_for
from helpers import (WAYS, check_new, edge_rows, fewest, greatest, odd_values, parts_of, random_rows, short_rows,
                     spread, subsets)

RING = Row([(0, 1), (1, 3), (3, 4), (2, 3), (1, 2)])
LINKS = Kind(["chained"])
SOME = [Kind([]), Kind(["same"]), Kind(["apart"]), ~Kind(["apart"]), LINKS, ~LINKS, Kind(["begun", "ended"]),
        ~Kind(["crossing"]), ~Kind(["within"]), Kind(["crossing", "within"]), ~Kind(["same"]), Kind(WAYS)]
TEN = random_rows(21, 2, 10, 5) + random_rows(22, 2, 10, 8) + random_rows(23, 2, 10, 14) + [Row([(0, 1)] * 10)]


def tree_by_hand(row, kind, many, tree, heaps=None, parted=()):
    """Whether a tuple of the form of a tree is one, by the words of the document."""
    heaps = [[index] for index in range(len(row))] if heaps is None else heaps

    def barred(one, other):
        return any(not together(row, kind, i, j) or (i, j) in parted or (j, i) in parted for i in one for j in other)

    def heap_of(bow):
        return next(heap for heap in heaps if bow in heap)

    if tree[0] == "crowd":
        its = [heap_of(bow) for bow in tree[1]]
        if tree[1] != sorted({*tree[1]}) or len(its) <= many:
            return False
        return all(one is not other and barred(one, other) for at, one in enumerate(its) for other in its[at + 1:])
    _, i, j, joined, apart = tree
    one, other = heap_of(i), heap_of(j)
    if i >= j or one is other or barred(one, other):
        return False
    rest = [heap for heap in heaps if heap is not one and heap is not other]
    return (tree_by_hand(row, kind, many, joined, rest + [one + other], parted)
            and tree_by_hand(row, kind, many, apart, heaps, (*parted, (i, j))))


def leaves_by_hand(tree):
    return 1 if tree[0] == "crowd" else leaves_by_hand(tree[3]) + leaves_by_hand(tree[4])


def changed_trees(tree):
    """Trees with one part changed, as far as they still have the form of one."""
    if tree[0] == "crowd":
        for at in range(len(tree[1])):
            yield ("crowd", tree[1][:at] + tree[1][at + 1:])
            for bow in range(5):
                yield ("crowd", tree[1][:at] + [bow] + tree[1][at + 1:])
        yield ("crowd", tree[1][::-1])
        yield ("crowd", tree[1] * 2)
        yield ("crowd", [])
        yield ("crowd", [0, 1, 2, 3, 4])
        return
    word, i, j, one, two = tree
    for first in range(5):
        for second in range(5):
            yield (word, first, second, one, two)
    yield (word, i, j, two, one)
    yield one
    yield two
    for other in changed_trees(one):
        yield (word, i, j, other, two)
    for other in changed_trees(two):
        yield (word, i, j, one, other)


class TryingTest(unittest.TestCase):
    def check(self, row, kind):
        many, layers = fewest_by_trying(row, kind), layering_by_trying(row, kind)
        self.assertIs(many.__class__, int)
        self.assertEqual(len(layers), many)
        self.assertIs(is_layering(row, kind, layers), True)
        return many

    def test_short_rows(self):
        for row in short_rows():
            for kind in SOME:
                many = self.check(row, kind)
                if len(row) < 7:
                    self.assertEqual(many, fewest(row, lambda some: is_layer(row, kind, some)))

    def test_all_kinds(self):
        for row in random_rows(24, 2, 5, 5) + [RING]:
            for kind in all_kinds():
                many = self.check(row, kind)
                self.assertEqual(many, fewest(row, lambda some: is_layer(row, kind, some)))
                crowd = greatest(row, lambda some: is_crowd(row, kind, some))
                self.assertGreaterEqual(many, crowd)
                if is_tight(kind):
                    self.assertEqual(many, crowd)

    def test_ten_bows(self):
        for row in TEN:
            for kind in SOME:
                many = self.check(row, kind)
                self.assertTrue(many == 0 or tree_by_hand(row, kind, many - 1, tree_for(row, kind, many - 1)))
                self.assertIs(many <= 2, two_layers(row, kind) is not None)
            for kind in tight_kinds():
                self.assertEqual(self.check(row, kind), fewest_layers(row, kind))

    def test_rows_without_bows_and_equal_bows(self):
        for kind in all_kinds():
            self.assertEqual(repr([fewest_by_trying(Row([]), kind), layering_by_trying(Row([]), kind)]), "[0, []]")
            equal = layering_by_trying(Row([(-5, 10 ** 30)] * 3), kind)
            self.assertEqual(equal, [[0, 1, 2]] if "same" in kind else [[0], [1], [2]])

    def test_rings(self):
        for kind in all_kinds():
            if not is_tight(kind):
                ring = Row(ring_for(kind))
                self.assertEqual(self.check(ring, kind), 3)
                self.assertIs(is_tree(ring, kind, 2, tree_for(ring, kind, 2)), True)
                self.assertEqual([tree_for(ring, kind, 3), greatest(ring, lambda some: is_crowd(ring, kind, some))],
                                 [None, 2])

    def test_turned_rows_and_directions_alone(self):
        for row in short_rows() + TEN[:2]:
            for kind in SOME:
                many = fewest_by_trying(row, kind)
                self.assertEqual(fewest_by_trying(row.turned(), kind.turned()), many)
                for other in (spread(row), row.plain()):
                    self.assertEqual(layering_by_trying(other, kind), layering_by_trying(row, kind))
                    self.assertEqual(tree_for(other, kind, 2), tree_for(row, kind, 2))

    def test_one_kind_and_another(self):
        two = [Row([(0, 2), (3, 4)]), Row([(0, 2), (0, 3)]), Row([(0, 2), (2, 3)]), Row([(0, 2), (1, 3)]),
               Row([(0, 2), (1, 2)]), Row([(0, 2), (0, 2)]), Row([(0, 3), (1, 2)])]
        rows = two + random_rows(25, 2, 6, 5)
        told = [[fewest_by_trying(row, kind) for row in rows] for kind in all_kinds()]
        for kind, numbers in zip(all_kinds(), told):
            for other, its in zip(all_kinds(), told):
                never_more = all(many <= other_many for many, other_many in zip(numbers, its))
                self.assertIs(never_more, other.inside_of(kind))


class LayeringsTest(unittest.TestCase):
    def test_all_layerings(self):
        for row in [row for row in short_rows() if len(row) < 7] + random_rows(26, 2, 6, 6):
            parts = sorted(parts_of(list(range(len(row)))))
            for kind in SOME:
                right = [layers for layers in parts if is_layering(row, kind, layers)]
                for many in range(len(row) + 2):
                    told = [layers for layers in right if len(layers) == many]
                    self.assertEqual(layerings(row, kind, many), told)
                least = fewest_by_trying(row, kind)
                if least:
                    self.assertEqual(layerings(row, kind, least - 1), [])
                self.assertIn(layering_by_trying(row, kind), layerings(row, kind, least))

    def test_seven_bows(self):
        for row in random_rows(27, 2, 7, 6) + [Row([(-4, 9)] * 7)]:
            parts = sorted(parts_of(list(range(7))))
            for kind in (Kind([]), ~Kind(["crossing"]), Kind(["apart"]), Kind(WAYS)):
                right = [layers for layers in parts if is_layering(row, kind, layers)]
                for many in (0, 1, 2, 3, 4, 7, 8):
                    told = [layers for layers in right if len(layers) == many]
                    self.assertEqual(layerings(row, kind, many), told)
        # As many as there are ways to part seven bows into three or four layers.
        told = [len(layerings(Row([(0, 1)] * 7), Kind(WAYS), many)) for many in range(9)]
        self.assertEqual(told, [0, 1, 63, 301, 350, 140, 21, 1, 0])

    def test_edges(self):
        for kind in SOME:
            self.assertEqual([layerings(Row([]), kind, many) for many in (0, 1, 10 ** 20)], [[[]], [], []])
            self.assertEqual([layerings(Row([(3, 5)]), kind, many) for many in (0, 1, 2)], [[], [[[0]]], []])
            self.assertEqual(layerings(RING, kind, 10 ** 20), [])

    def test_ascending_as_lists_of_numbers(self):
        told = layerings(Row([(0, 1)] * 4), Kind(WAYS), 2)
        self.assertEqual(told, [[[0], [1, 2, 3]], [[0, 1], [2, 3]], [[0, 1, 2], [3]], [[0, 1, 3], [2]],
                                [[0, 2], [1, 3]], [[0, 2, 3], [1]], [[0, 3], [1, 2]]])


class TreeTest(unittest.TestCase):
    def check(self, row, kind):
        least = fewest_by_trying(row, kind)
        for many in range(least):
            tree = tree_for(row, kind, many)
            self.assertIsInstance(tree, tuple)
            self.assertTrue(tree_by_hand(row, kind, many, tree))
            self.assertIs(is_tree(row, kind, many, tree), True)
            self.assertEqual(repr(leaves(tree)), repr(leaves_by_hand(tree)))
        for many in (least, least + 1, 10 ** 20):
            self.assertIs(tree_for(row, kind, many), None)
            # What shows that fewer are not enough does not show it of these.
            if least:
                self.assertIs(is_tree(row, kind, many, tree), False)

    def test_short_rows(self):
        for row in short_rows():
            for kind in SOME:
                self.check(row, kind)

    def test_all_kinds(self):
        for row in random_rows(28, 2, 6, 6) + [RING]:
            for kind in all_kinds():
                self.check(row, kind)

    def test_ten_bows(self):
        for row in TEN:
            for kind in all_kinds()[::3]:
                self.check(row, kind)

    def test_bows_that_need_pairs_below_pairs(self):
        # Seven bows in a round, each of which crosses just the one before it and the one behind it.
        row = Row([(3 * at, 3 * at + 4) for at in range(6)] + [(1, 18)])
        kind = ~Kind(["crossing"])
        tree = tree_for(row, kind, 2)
        self.assertEqual(tree[0], "pair")
        self.assertGreater(leaves(tree), 2)
        self.check(row, kind)

    def test_trees_by_hand(self):
        tree = ("pair", 0, 4, ("pair", 1, 2, ("crowd", [0, 1, 3]), ("crowd", [0, 1, 2])), ("crowd", [0, 2, 4]))
        self.assertIs(is_tree(RING, LINKS, 2, tree), tree_by_hand(RING, LINKS, 2, tree))
        found = 0
        for many in (0, 1, 2):
            for start in (tree_for(RING, LINKS, 2), tree_for(RING, LINKS, 1), tree_for(RING, LINKS, 0), tree):
                for other in [start, *changed_trees(start)]:
                    right = tree_by_hand(RING, LINKS, many, other)
                    found += right
                    self.assertIs(is_tree(RING, LINKS, many, other), right, other)
        self.assertGreater(found, 20)

    def test_all_crowds(self):
        row = random_rows(29, 1, 5, 4)[0]
        for kind in SOME:
            for some in subsets(range(5)):
                for many in range(6):
                    right = is_crowd(row, kind, some) and len(some) > many
                    self.assertIs(is_tree(row, kind, many, ("crowd", some)), right)

    def test_two_bows_of_one_heap_make_no_crowd(self):
        row = Row([(0, 1), (2, 3), (2, 4)])
        kind = Kind(["apart"])
        joined = ("pair", 0, 1, ("crowd", [0, 2]), ("crowd", [0, 1]))
        self.assertIs(is_tree(row, kind, 1, joined), True)
        joined = ("pair", 0, 1, ("crowd", [1, 2]), ("crowd", [0, 1]))
        self.assertIs(is_tree(row, kind, 1, joined), True)
        for wrong in ([0, 1], [0, 1, 2], [0], []):
            self.assertIs(is_tree(row, kind, 1, ("pair", 0, 1, ("crowd", wrong), ("crowd", [0, 1]))), False)
        # Barred, or one heap: then no pair is put together or parted again.
        crowd = ("crowd", [1, 2])
        self.assertIs(is_tree(row, kind, 1, ("pair", 1, 2, crowd, crowd)), False)
        self.assertIs(is_tree(row, kind, 1, ("pair", 0, 1, ("pair", 0, 1, crowd, crowd), crowd)), False)
        self.assertIs(is_tree(row, kind, 1, ("pair", 0, 1, crowd, ("pair", 0, 1, crowd, crowd))), False)
        self.assertIs(is_tree(row, kind, 1, ("pair", 0, 1, ("pair", 0, 2, crowd, crowd), crowd)), False)
        self.assertIs(is_tree(row, kind, 1, ("pair", 0, 1, crowd, ("pair", 0, 2, crowd, crowd))), True)
        self.assertIs(is_tree(row, kind, 1, ("pair", 1, 0, crowd, crowd)), False)
        self.assertIs(is_tree(row, kind, 1, ("pair", 0, 0, crowd, crowd)), False)

    def test_wrong_values(self):
        row, kind = Row([(0, 1), (2, 3), (2, 4)]), Kind(["apart"])
        crowd = ("crowd", [1, 2])
        self.assertIs(is_tree(row, kind, 1, crowd), True)
        self.assertIs(is_tree(row, kind, 1, ("pair", 0, 1, crowd, crowd)), True)
        wrong = [
            ["crowd", [1, 2]], ("crowd", (1, 2)), ("crowd", [2, 1]), ("crowd", [1, 1]), ("crowd", [1, 3]),
            ("crowd", [True, 2]), ("crowd", [-1, 1]), ("crowd", [1, 2], []), ("crowd",), (), ("Crowd", [1, 2]),
            ("crowd", ["1", "2"]), ("crowd", {1: 2}), ("crowd", 12), (["crowd"], [1, 2]), ([1, 2], "crowd"),
            ("crowd", list(range(9000))), ("crowd", [0] * 9000), ("pair", [1, 2]), ("pair",), ("pair", 0, 1),
            ("pair", 0, 1, crowd), ("pair", 0, 1, crowd, crowd, crowd), ["pair", 0, 1, crowd, crowd],
            ("crowd", 0, 1, crowd, crowd), ("pair", False, 1, crowd, crowd), ("pair", 0, True, crowd, crowd),
            ("pair", False, True, crowd, crowd), ("pair", 0, 3, crowd, crowd), ("pair", -3, 1, crowd, crowd),
            ("pair", "0", "1", crowd, crowd), ("pair", None, 1, crowd, crowd), ("pair", 0, [1], crowd, crowd),
            ("pair", 0, 1, list(crowd), crowd), ("pair", 0, 1, crowd, list(crowd)), ("pair", 0, 1, crowd, None),
            ("pair", 0, 1, None, crowd), ("pair", 0, 1, ("crowd", [True, 2]), crowd), (True, [1, 2]),
            ("pair", 0, 10 ** 30, crowd, crowd), (crowd,), [crowd], "crowd", ("crowd", crowd), (mock.ANY, [1, 2]),
            (mock.ANY, 0, 1, crowd, crowd), mock.ANY, *odd_values(),
        ]
        for thing in wrong:
            for many in (0, 1):
                self.assertIs(is_tree(row, kind, many, thing), False, repr(thing)[:60])
        for thing in odd_values():
            for other in [("crowd", thing), (thing, [1, 2]), ("pair", thing, 1, crowd, crowd),
                          ("pair", 0, thing, crowd, crowd), ("pair", 0, 1, thing, crowd), ("pair", 0, 1, crowd, thing),
                          (thing, 0, 1, crowd, crowd)]:
                self.assertIs(is_tree(row, kind, 1, other), False)

    def test_deep_things(self):
        # Never deeper than there are pairs, whatever is told below.
        row = Row([(0, 1), (2, 3), (4, 5)])
        tree = ("crowd", [0])
        for _ in range(14):
            tree = ("pair", 0, 1, tree, ("crowd", [0]))
        self.assertIs(is_tree(row, Kind(["apart"]), 0, tree), False)
        self.assertIs(is_tree(row, Kind(["apart"]), 0, ("pair", 0, 1, ("crowd", [0]), ("crowd", [0]))), True)

    def test_a_row_without_bows(self):
        for kind in SOME:
            for many in (0, 1, 10 ** 20):
                self.assertIs(tree_for(Row([]), kind, many), None)
                for thing in [("crowd", []), ("crowd", [0]), ("pair", 0, 1, ("crowd", []), ("crowd", [])),
                              *odd_values()]:
                    self.assertIs(is_tree(Row([]), kind, many, thing), False)

    def test_no_layer(self):
        row = Row([(0, 1), (2, 3)])
        for kind in SOME:
            for index in (0, 1):
                self.assertIs(is_tree(row, kind, 0, ("crowd", [index])), True)
            self.assertIs(is_tree(row, kind, 0, ("crowd", [])), False)

    def test_leaves(self):
        crowd = ("crowd", [0])
        self.assertEqual(leaves(crowd), 1)
        self.assertEqual(leaves(("pair", 0, 1, crowd, crowd)), 2)
        self.assertEqual(leaves(("pair", 0, 1, ("pair", 0, 2, crowd, crowd), crowd)), 3)
        self.assertEqual(leaves(("pair", 0, 1, crowd, ("pair", 0, 2, crowd, ("pair", 1, 2, crowd, crowd)))), 4)

    def test_what_is_told_is_new(self):
        for row in [row for row in edge_rows() if len(row) < 6] + random_rows(30, 1, 6, 5):
            bows = row.bows()
            for kind in (Kind([]), LINKS, ~LINKS, Kind(WAYS)):
                least = fewest_by_trying(row, kind)
                check_new(self, lambda: layering_by_trying(row, kind), lambda: tree_for(row, kind, max(least - 1, 0)),
                          lambda: layerings(row, kind, least), lambda: layerings(row, kind, least + 1),
                          lambda: fewest_by_trying(row, kind), lambda: tree_for(row, kind, 0),
                          lambda: tree_for(row, kind, least), lambda: tree_for(Row(bows), Kind(kind.ways()), 0))
            self.assertEqual(row.bows(), bows)

    def test_what_is_asked_stays(self):
        tree = tree_for(RING, LINKS, 2)
        kept = repr(tree)
        self.assertIs(is_tree(RING, LINKS, 2, tree), True)
        self.assertEqual(repr(tree), kept)
        self.assertEqual(leaves(tree), leaves_by_hand(tree))
        self.assertEqual(repr(tree), kept)

    def test_examples_of_the_document(self):
        self.assertEqual(fewest_by_trying(RING, LINKS), 3)
        told = [is_tree(RING, LINKS, 2, tree_for(RING, LINKS, 2)), tree_for(RING, LINKS, 3),
                is_tree(RING, LINKS, 1, ("crowd", [0, 2])), leaves(("crowd", [0, 2]))]
        self.assertEqual(told, [True, None, True, 1])


if __name__ == "__main__":
    unittest.main()
