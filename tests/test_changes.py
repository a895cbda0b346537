"""[2] to [5], [9], [11], [81]: places exchanged, and dealings changed little."""

import itertools
import unittest

from bowkinds.bows import way_of
from bowkinds.changes import changed_pairs, exchanged, is_dealing, least_moves, put_in, taken_out
from bowkinds.compared import unlike_pairs
from bowkinds.kinds import Kind, all_kinds
from bowkinds.layers import is_layering, together
from bowkinds.rows import Row
from bowkinds.trees import fewest_by_trying
from helpers import FAR, WAYS, check_new, edge_rows, forty_rows, odd_values, random_rows, short_rows, small_bows, spread

RING = Row([(0, 1), (1, 3), (3, 4), (2, 3), (1, 2)])
CHAIN, FREE = Kind(["chained"]), Kind(["apart"])
SOME = [Kind([]), Kind(["same"]), FREE, ~FREE, CHAIN, ~CHAIN, Kind(["begun", "ended"]), ~Kind(["crossing"]),
        ~Kind(["same"]), Kind(WAYS)]


class ExchangedTest(unittest.TestCase):
    def test_each_place_by_hand(self):
        for row in short_rows() + forty_rows():
            for place in [*range(-4, 9), -FAR, FAR - 1, 1 - FAR]:
                told = exchanged(row, place)
                self.assertIsInstance(told, Row)
                self.assertEqual(len(told), len(row))
                for bow, its in zip(row, told):
                    news = [{place: place + 1, place + 1: place}.get(end, end) for end in bow]
                    self.assertEqual(its, (min(news), max(news)))
                # What is exchanged twice is as it was.
                self.assertEqual(exchanged(told, place), row)
                self.assertEqual(changed_pairs(row, place), unlike_pairs(row, told))

    def test_all_bows_of_four_places(self):
        row = Row(small_bows(4))
        self.assertEqual(row.bows(), [(0, 1), (0, 2), (0, 3), (1, 2), (1, 3), (2, 3)])
        self.assertEqual(exchanged(row, 1).bows(), [(0, 2), (0, 1), (0, 3), (1, 2), (2, 3), (1, 3)])
        self.assertEqual(exchanged(row, 0).bows(), [(0, 1), (1, 2), (1, 3), (0, 2), (0, 3), (2, 3)])
        self.assertEqual(exchanged(row, -1).bows(), [(-1, 1), (-1, 2), (-1, 3), (1, 2), (1, 3), (2, 3)])
        self.assertEqual(exchanged(row, 3).bows(), [(0, 1), (0, 2), (0, 4), (1, 2), (1, 4), (2, 4)])

    def test_the_bounds(self):
        row = Row([(-FAR, 1 - FAR), (FAR - 1, FAR), (-FAR, FAR), (0, FAR - 1)])
        self.assertEqual(exchanged(row, FAR - 1).bows(),
                         [(-FAR, 1 - FAR), (FAR - 1, FAR), (-FAR, FAR - 1), (0, FAR)])
        self.assertEqual(exchanged(row, -FAR).bows(),
                         [(-FAR, 1 - FAR), (FAR - 1, FAR), (1 - FAR, FAR), (0, FAR - 1)])

    def test_a_common_place_is_lost_and_won(self):
        row = Row([(0, 3), (3, 6), (0, 5)])
        self.assertEqual(changed_pairs(row, 3), [])
        self.assertEqual(changed_pairs(row, 2), [])
        lost = Row([(0, 3), (4, 6), (0, 4)])
        self.assertEqual(changed_pairs(lost, 3), [(0, 1, "apart", "crossing")])
        begins = Row([(3, 9), (3, 8), (4, 7)])
        self.assertEqual(exchanged(begins, 3).bows(), [(4, 9), (4, 8), (3, 7)])
        self.assertEqual(changed_pairs(begins, 3), [(0, 2, "within", "crossing"), (1, 2, "within", "crossing")])
        ends = Row([(0, 3), (1, 4), (1, 4)])
        self.assertEqual(changed_pairs(ends, 3), [(0, 1, "crossing", "within"), (0, 2, "crossing", "within")])
        self.assertEqual(changed_pairs(Row([(3, 4), (3, 5), (2, 4)]), 3),
                         [(0, 1, "begun", "chained"), (0, 2, "ended", "chained"), (1, 2, "crossing", "apart")])
        self.assertEqual(changed_pairs(Row([(3, 4), (4, 5), (2, 3)]), 3),
                         [(0, 1, "chained", "begun"), (0, 2, "chained", "ended"), (1, 2, "apart", "crossing")])

    def test_no_bow_there(self):
        for row in edge_rows():
            self.assertEqual(exchanged(row, 100), row)
            self.assertEqual(repr(changed_pairs(row, 100)), "[]")
        self.assertEqual(repr([exchanged(Row([]), 0).bows(), changed_pairs(Row([]), 0)]), "[[], []]")

    def test_what_is_told_is_new(self):
        for row in edge_rows():
            bows = row.bows()
            check_new(self, lambda: changed_pairs(row, 0), lambda: exchanged(row, 0).bows(),
                      lambda: changed_pairs(row, 1))
            self.assertEqual(row.bows(), bows)
            self.assertIsNot(exchanged(row, 100), row)


def all_dealings(many_bows, many):
    return [list(told) for told in itertools.product(range(many), repeat=many_bows)]


def right_dealings(row, kind, many):
    pairs = [(i, j) for i in range(len(row)) for j in range(i) if not together(row, kind, i, j)]
    return [told for told in all_dealings(len(row), many) if all(told[i] != told[j] for i, j in pairs)]


def moved(dealing, right):
    return len([at for at in range(len(right)) if dealing[at] is not None and dealing[at] != right[at]])


class DealingTest(unittest.TestCase):
    def test_all_dealings(self):
        for row in [Row([]), Row([(0, 1)]), Row([(0, 1), (0, 1)]), Row([(0, 1), (1, 2), (0, 2), (5, 6)])]:
            for kind in SOME:
                for many in (1, 2, 3, 4):
                    right = right_dealings(row, kind, many)
                    for told in all_dealings(len(row), many):
                        self.assertIs(is_dealing(row, kind, told, many), told in right)

    def test_layers_of_a_dealing(self):
        for row in random_rows(61, 2, 6, 5):
            for kind in SOME:
                for told in all_dealings(6, 3)[::7]:
                    layers = [[index for index in range(6) if told[index] == number] for number in range(3)]
                    told_layers = sorted(layer for layer in layers if layer)
                    self.assertIs(is_dealing(row, kind, told, 3), is_layering(row, kind, told_layers))

    def test_wrong_values(self):
        row = Row([(0, 1), (4, 5), (0, 1)])
        self.assertIs(is_dealing(row, FREE, [0, 1, 1], 2), True)
        wrong = [
            [0, 1], [0, 1, 1, 1], [0, 0, 0], [0, 1, 2], [0, -1, 1], [0, None, 1], [0, True, 1], [False, 1, 1],
            (0, 1, 1), [0, [1], 1], "011", {0: 0, 1: 1, 2: 1}, [], [[0, 1, 1]], [0, 1] * 4000, ["0", "1", "1"],
            *odd_values(),
        ]
        for thing in wrong:
            self.assertIs(is_dealing(row, FREE, thing, 2), False, repr(thing)[:60])
        for thing in odd_values():
            self.assertIs(is_dealing(row, FREE, [0, 1, thing], 2), False)
            self.assertIs(is_dealing(Row([]), FREE, thing, 1), thing == [] and isinstance(thing, list))
        self.assertIs(is_dealing(Row([]), FREE, [], 1), True)
        self.assertIs(is_dealing(Row([]), FREE, (), 1), False)

    def test_what_is_asked_stays(self):
        thing = [0, 1]
        self.assertIs(is_dealing(Row([(0, 1)] * 2), FREE, thing, 2), True)
        self.assertEqual(thing, [0, 1])


class MovesTest(unittest.TestCase):
    def check(self, row, kind, dealing, many, rights):
        kept = list(dealing)
        told = least_moves(row, kind, dealing, many)
        self.assertEqual(dealing, kept)
        if not rights:
            self.assertIsNone(told)
            return
        self.assertIsInstance(told, tuple)
        moves, right = told
        self.assertIs(moves.__class__, int)
        self.assertIs(is_dealing(row, kind, right, many), True)
        self.assertEqual(moves, moved(dealing, right))
        self.assertEqual(moves, min(moved(dealing, some) for some in rights))

    def test_all_dealings_of_short_rows(self):
        for row in [Row([]), Row([(0, 1)]), Row([(0, 1), (1, 2), (0, 2)]), Row([(0, 1), (0, 1), (4, 5)])]:
            for kind in all_kinds()[::5] + SOME:
                for many in (1, 2, 3):
                    rights = right_dealings(row, kind, many)
                    for dealing in itertools.product([None, *range(many)], repeat=len(row)):
                        self.check(row, kind, list(dealing), many, rights)

    def test_some_dealings_of_longer_rows(self):
        for row in random_rows(62, 3, 5, 5) + random_rows(63, 1, 6, 4) + [RING, Row([(0, 1)] * 5)]:
            for kind in SOME:
                for many in (1, 2, 3, 4):
                    rights = right_dealings(row, kind, many)
                    for dealing in itertools.islice(itertools.product([0, None, *range(1, many)], repeat=len(row)),
                                                    0, None, 211):
                        self.check(row, kind, list(dealing), many, rights)

    def test_eight_bows(self):
        rows = random_rows(64, 2, 8, 6) + [Row([(at, at + 3) for at in range(8)]), Row([(-FAR, FAR)] * 8)]
        for row in rows:
            for kind in SOME + all_kinds()[20:110:9]:
                for many in (1, 2, 3, 4):
                    for dealing in ([0] * 8, [None] * 8, [at % many for at in range(8)], [None, many - 1] * 4):
                        told = least_moves(row, kind, dealing, many)
                        self.assertIs(told is None, fewest_by_trying(row, kind) > many)
                        if told is not None:
                            self.assertIs(is_dealing(row, kind, told[1], many), True)
                            self.assertEqual(told[0], moved(dealing, told[1]))

    def test_eight_bows_by_hand(self):
        row = Row([(0, 1), (1, 2), (0, 1), (2, 4), (3, 5), (0, 2), (4, 6), (3, 5)])
        for kind in (FREE, ~FREE, Kind(["apart", "chained"]), ~Kind(["crossing"]), Kind(WAYS)):
            for many in (2, 3, 4):
                rights = right_dealings(row, kind, many)
                for dealing in ([0] * 8, [0, 1] * 4, [1, None, 0, 1, 1, None, 0, 0], [many - 1] * 7 + [None]):
                    self.check(row, kind, dealing, many, rights)

    def test_nothing_is_moved_of_what_is_right(self):
        for row in random_rows(65, 3, 7, 7):
            for kind in SOME:
                right = least_moves(row, kind, [None] * 7, 4)
                if right is not None:
                    self.assertEqual(right[0], 0)
                    self.assertEqual(least_moves(row, kind, right[1], 4), right)

    def test_a_row_without_bows(self):
        for kind in SOME:
            for many in (1, 2, 3, 4):
                self.assertEqual(repr(least_moves(Row([]), kind, [], many)), "(0, [])")
                self.assertEqual(repr(put_in(Row([]), kind, [], (0, 1), many)), "(0, [0])")

    def test_they_hang_on_directions_alone(self):
        for row in random_rows(66, 3, 6, 5) + [RING]:
            for kind in SOME:
                dealing = [0] * len(row)
                told = least_moves(row, kind, dealing, 3)
                self.assertEqual(least_moves(spread(row), kind, dealing, 3), told)
                self.assertEqual(least_moves(row.turned(), kind.turned(), dealing, 3), told)

    def test_a_further_bow(self):
        for row in [Row([])] + random_rows(67, 3, 4, 5) + random_rows(68, 2, 7, 6):
            for kind in SOME:
                for bow in ((0, 1), (2, 4), (-FAR, FAR)):
                    for many in (1, 2, 4):
                        dealing = [at % many if at % 3 else None for at in range(len(row))]
                        kept, bows = list(dealing), row.bows()
                        told = put_in(row, kind, dealing, bow, many)
                        more = Row(bows + [bow])
                        self.assertEqual(told, least_moves(more, kind, dealing + [None], many))
                        self.assertEqual([dealing, row.bows()], [kept, bows])
                        self.assertIs(told is None, fewest_by_trying(more, kind) > many)
                        if told is not None:
                            self.assertIs(is_dealing(more, kind, told[1], many), True)
                            self.assertEqual(told[0], moved(kept + [None], told[1]))

    def test_a_bow_is_taken_out(self):
        dealing = [3, None, 0, 0, 1]
        right = [[None, 0, 0, 1], [3, 0, 0, 1], [3, None, 0, 1], [3, None, 0, 1], [3, None, 0, 0]]
        self.assertEqual([taken_out(dealing, index) for index in range(5)], right)
        self.assertEqual(dealing, [3, None, 0, 0, 1])
        self.assertEqual(taken_out([2], 0), [])
        for row in random_rows(69, 3, 6, 5):
            for kind in SOME:
                told = least_moves(row, kind, [0] * 6, 4)
                if told is not None:
                    for index in range(6):
                        rest = taken_out(told[1], index)
                        self.assertIs(is_dealing(row.without(index), kind, rest, 4), True)

    def test_what_is_told_is_new(self):
        for kind in (FREE, CHAIN, Kind(WAYS)):
            dealing = [0, 1, None, 1, 0]
            check_new(self, lambda: least_moves(RING, kind, dealing, 3), lambda: put_in(RING, kind, dealing, (7, 9), 3),
                      lambda: taken_out(dealing, 2), lambda: least_moves(RING, kind, [None] * 5, 4),
                      lambda: least_moves(RING, kind, [0, 1, 2, 0, 1], 3))
            self.assertEqual(dealing, [0, 1, None, 1, 0])

    def test_examples_of_the_document(self):
        two = Row([(0, 3), (4, 6)])
        self.assertEqual(exchanged(two, 3).bows(), [(0, 4), (3, 6)])
        self.assertEqual(changed_pairs(two, 3), [(0, 1, "apart", "crossing")])
        self.assertEqual(way_of((0, 4), (3, 6)), "crossing")
        row = Row([(0, 1), (4, 5)])
        self.assertEqual(put_in(row, FREE, [0, 1], (0, 2), 2), (0, [0, 1, 1]))
        self.assertEqual(put_in(row, FREE, [0, 1], (0, 5), 2)[0], 1)


if __name__ == "__main__":
    unittest.main()
