"""[2] to [6], [9], [11], [12], [82]: strips of repeated pieces."""

import unittest

from bowkinds.bows import moved_bow
from bowkinds.errors import BowError, NotTight, NoWay
from bowkinds.fewest import fewest_layers
from bowkinds.kinds import Kind, all_kinds
from bowkinds.layers import is_crowd
from bowkinds.rows import Row
from bowkinds.strips import enough_copies, strip, strip_crowd, strip_fewest, strip_values
from bowkinds.tight import is_tight, tight_kinds
from helpers import FAR, WAYS, check_new, random_rows

FREE = Kind(["apart"])
GOOD = [kind for kind in tight_kinds() if "apart" in kind]
PIECES = [
    (Row([(0, 3)]), 1), (Row([(0, 3)]), 2), (Row([(0, 3)]), 3), (Row([(0, 3)]), 4), (Row([(0, 1)]), 1),
    (Row([(0, 2), (1, 3)]), 1), (Row([(0, 2), (0, 2)]), 1), (Row([(0, 1), (3, 4)]), 1), (Row([(3, 4), (0, 1)]), 2),
    (Row([(-5, -2), (-3, 0), (-5, 0)]), 4), (Row([(0, 1), (1, 2), (0, 2)]), 2), (Row([(0, 5), (1, 4), (2, 3)]), 3),
    (Row([(0, 1), (5, 6), (10, 11)]), 5), (Row([(-FAR, 1 - FAR)]), FAR), (Row([(0, 1), (0, 2), (0, 3)]), 1),
]


class StripTest(unittest.TestCase):
    def test_copies(self):
        for piece, step in PIECES:
            for many in range(4 if step < FAR else 3):
                told = strip(piece, step, many)
                self.assertIsInstance(told, Row)
                right = [moved_bow(bow, step * at) for at in range(many) for bow in piece.bows()]
                self.assertEqual(told.bows(), right)

    def test_by_hand(self):
        piece = Row([(0, 2), (-1, 5)])
        self.assertEqual(strip(piece, 3, 3).bows(), [(0, 2), (-1, 5), (3, 5), (2, 8), (6, 8), (5, 11)])
        self.assertEqual(strip(piece, 3, 1), piece)
        self.assertEqual(repr(strip(piece, 3, 0).bows()), "[]")

    def test_forty_bows_and_the_bounds(self):
        told = strip(Row([(0, 1)]), 5, 40)
        self.assertEqual([len(told), told[39]], [40, (195, 196)])
        told = strip(Row([(-FAR, 1 - FAR), (-2, 0)]), FAR, 2)
        self.assertEqual(told.bows(), [(-FAR, 1 - FAR), (-2, 0), (0, 1), (FAR - 2, FAR)])

    def test_enough_copies(self):
        for piece, step in PIECES:
            begins = [begin for begin, _ in piece]
            longest = max(end - begin for begin, end in piece)
            right = (longest + max(begins) - min(begins)) // step + 1
            self.assertEqual(repr(enough_copies(piece, step)), repr(right))
        told = [enough_copies(Row([(0, 3)]), step) for step in (1, 2, 3, 4, 10 ** 30)]
        self.assertEqual(told, [4, 2, 2, 1, 1])
        self.assertEqual(enough_copies(Row([(-FAR, FAR)]), 1), 2 * FAR + 1)
        self.assertEqual(enough_copies(Row([(9, 10), (-9, -8)]), 19), 2)
        self.assertEqual(enough_copies(Row([(9, 10), (-9, -8)]), 20), 1)

    def test_enough_are_needed(self):
        # Bows that are not apart stand in so many neighbouring copies, and there are some so far away.
        for piece, step in [(Row([(0, 3)]), 1), (Row([(0, 3), (5, 6)]), 2), (Row([(0, 9), (4, 5)]), 3)]:
            enough = enough_copies(piece, step)
            told = strip(piece, step, enough + 4).bows()
            behind = [at // len(piece) for at, bow in enumerate(told)
                      if any(bow[0] <= other[1] and other[0] <= bow[1] for other in told[:len(piece)])]
            self.assertLess(max(behind), enough)


class ValuesTest(unittest.TestCase):
    def check(self, piece, step, kind):
        enough = enough_copies(piece, step)
        right = [fewest_layers(strip(piece, step, many), kind) for many in range(enough + 4)]
        values = strip_values(piece, step, kind)
        self.assertTrue(all(number.__class__ is int for number in values))
        self.assertEqual(values, right[:len(values)])
        self.assertEqual(values[-1], right[-1])
        self.assertNotIn(right[-1], values[:-1])
        self.assertLessEqual(len(values), enough + 1)
        for many in range(enough + 4):
            self.assertEqual(repr(strip_fewest(piece, step, kind, many)), repr(right[many]))
        for many in (10 ** 20, 10 ** 30):
            self.assertEqual(strip_fewest(piece, step, kind, many), right[-1])
        crowd = strip_crowd(piece, step, kind)
        self.assertIs(is_crowd(strip(piece, step, enough), kind, crowd), True)
        self.assertEqual(len(crowd), right[-1])

    def test_all_kinds(self):
        self.assertEqual(len(GOOD), 28)
        for piece, step in PIECES:
            if step < FAR:
                for kind in GOOD:
                    self.check(piece, step, kind)

    def test_random_pieces(self):
        for row in random_rows(71, 3, 2, 5) + random_rows(72, 3, 3, 4) + random_rows(73, 2, 4, 5):
            for kind in GOOD[::2]:
                self.check(row, 3, kind)
                self.check(row.moved(-FAR), 2, kind)

    def test_fourteen_bows(self):
        self.check(Row([(0, 13)]), 1, FREE)
        self.assertEqual(strip_values(Row([(0, 13)]), 1, FREE), list(range(15)))
        for kind in GOOD[::5]:
            self.check(Row([(0, 1), (0, 2), (1, 3), (2, 3), (0, 3), (1, 2), (2, 4)]), 5, kind)

    def test_steps_longer_than_the_piece(self):
        piece = Row([(0, 3), (1, 2)])
        self.assertEqual(strip_values(piece, 4, FREE), [0, 2])
        self.assertEqual(strip_values(piece, 3, FREE), [0, 2])
        self.assertEqual(strip_values(piece, 2, FREE), [0, 2, 3])
        self.assertEqual(strip_values(piece, 3, Kind(["apart", "chained"])), [0, 2])
        self.assertEqual(strip_values(piece, 10 ** 29, FREE), [0, 2])

    def test_far_apart(self):
        piece = Row([(-FAR, 1 - FAR), (-FAR, FAR // 2 - FAR)])
        self.assertEqual(strip_values(piece, FAR // 2, FREE), [0, 2, 3])
        self.assertEqual(strip_values(piece, FAR // 2 + 1, FREE), [0, 2])
        self.assertEqual(strip_fewest(piece, FAR // 2 + 1, FREE, 10 ** 30), 2)

    def test_no_copy(self):
        for kind in GOOD:
            self.assertEqual(repr(strip_fewest(Row([(0, 3)]), 1, kind, 0)), "0")

    def test_equal_bows(self):
        piece = Row([(0, 1)] * 7)
        self.assertEqual(strip_values(piece, 2, FREE), [0, 7])
        self.assertEqual(strip_values(piece, 2, FREE | Kind(["same"])), [0, 1])
        self.assertEqual(strip_values(piece, 1, FREE), [0, 7, 14])
        self.assertEqual(strip_values(piece, 1, FREE | Kind(["same"])), [0, 1, 2])

    def test_places_hardly_matter(self):
        for row in random_rows(74, 3, 3, 5):
            for kind in GOOD[::3]:
                values = strip_values(row, 3, kind)
                self.assertEqual(strip_values(row.moved(10 ** 20), 3, kind), values)
                threefold = Row([(3 * begin, 3 * end) for begin, end in row])
                self.assertEqual(strip_values(threefold, 9, kind), values)

    def test_turned_pieces(self):
        for row in random_rows(75, 3, 3, 5):
            for kind in GOOD:
                self.assertEqual(strip_values(row.turned(), 2, kind.turned()), strip_values(row, 2, kind))

    def test_more_ways_never_need_more(self):
        for row in random_rows(76, 2, 3, 5):
            told = [(kind, strip_fewest(row, 2, kind, 10 ** 25)) for kind in GOOD]
            for kind, many in told:
                self.assertTrue(all(many <= its for other, its in told if other.inside_of(kind)))

    def test_errors(self):
        piece = Row([(0, 3), (1, 5)])
        seen = []
        for kind in all_kinds():
            if is_tight(kind) and "apart" in kind:
                continue
            asked = [lambda: strip_values(piece, 1, kind), lambda: strip_crowd(piece, 1, kind)]
            asked += [lambda: strip_fewest(piece, 1, kind, 0), lambda: strip_fewest(piece, 1, kind, 10 ** 30)]
            for ask in asked:
                with self.assertRaises(BowError) as caught:
                    ask()
                right = NoWay if is_tight(kind) else NotTight
                self.assertIs(caught.exception.__class__, right)
                if right is NoWay:
                    self.assertEqual(caught.exception.word, "apart")
            seen.append((is_tight(kind), "apart" in kind))
            self.assertEqual(piece.bows(), [(0, 3), (1, 5)])
        # Kinds that are not tight are told as such ahead of the way that they lack.
        self.assertEqual({*seen}, {(True, False), (False, True), (False, False)})

    def test_what_is_told_is_new(self):
        for piece, step in PIECES[:8]:
            bows = piece.bows()
            for kind in (FREE, FREE | Kind(["chained"]), Kind(WAYS)):
                check_new(self, lambda: strip_values(piece, step, kind), lambda: strip_crowd(piece, step, kind),
                          lambda: strip(piece, step, 3).bows(), lambda: strip_fewest(piece, step, kind, 2))
            self.assertEqual(piece.bows(), bows)
            self.assertIsNot(strip(piece, step, 1), piece)

    def test_examples_of_the_document(self):
        piece = Row([(0, 3)])
        told = [strip_values(piece, 1, FREE), enough_copies(piece, 1), strip_fewest(piece, 1, FREE, 10 ** 20)]
        self.assertEqual(told, [[0, 1, 2, 3, 4], 4, 4])


if __name__ == "__main__":
    unittest.main()
