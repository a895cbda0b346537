"""[2] to [5], [9], [11], [92]: rows turned round."""

import itertools
import unittest

from bowkinds.bows import way_of
from bowkinds.fewest import fewest_layers
from bowkinds.kinds import Kind, all_kinds
from bowkinds.rows import Row, are_alike
from bowkinds.tight import is_tight
from bowkinds.trees import fewest_by_trying
from bowkinds.turning import cut_at, cuts, is_showing_cut, showing_cut, stays
from bowkinds.words import word_of
from helpers import FAR, WAYS, check_new, forty_rows, odd_values, random_rows, small_bows

STAYING = [kind for kind in all_kinds() if ("apart" in kind) == ("within" in kind)
           and len({"begun" in kind, "chained" in kind, "ended" in kind}) == 1]


def cut_by_hand(row, places, at):
    """The ring told place by place, from the one where it is cut on."""
    order = [*range(at, places), *range(at)]
    told = [[order.index(end) for end in bow] for bow in row]
    return [(min(ends), max(ends)) for ends in told]


class CutTest(unittest.TestCase):
    def rows(self):
        rows = [Row([]), Row([(0, 1)]), Row([(0, 1)] * 4), Row(small_bows(5)), Row([(3, 9), (9, 10), (0, 10), (3, 9)])]
        return rows + random_rows(81, 3, 6, 6) + random_rows(82, 2, 10, 12)

    def test_each_cut_by_hand(self):
        for row in self.rows():
            least = max([1, *[end + 1 for _, end in row]])
            for places in (least, least + 1, least + 7):
                for at in range(places):
                    told = cut_at(row, places, at)
                    self.assertIsInstance(told, Row)
                    self.assertEqual(told.bows(), cut_by_hand(row, places, at))
                    self.assertEqual(cut_at(told, places, (places - at) % places), row)
                self.assertEqual(cuts(row, places), [cut_at(row, places, at) for at in range(places)])
                self.assertEqual(cut_at(row, places, 0), row)

    def test_one_cut_behind_another(self):
        for row in random_rows(83, 4, 6, 7):
            for one, other in itertools.product(range(7), repeat=2):
                told = cut_at(cut_at(row, 7, one), 7, other)
                self.assertEqual(told, cut_at(row, 7, (one + other) % 7))

    def test_forty_bows_and_sixty_places(self):
        for row in forty_rows()[:3]:
            told = cuts(row, 60)
            self.assertIsInstance(told, list)
            self.assertEqual(len(told), 60)
            for at in range(0, 60, 7):
                self.assertEqual(told[at].bows(), cut_by_hand(row, 60, at))

    def test_the_greatest_ring(self):
        row = Row([(0, FAR), (5, FAR - 1), (0, 1)])
        places = FAR + 1
        self.assertEqual(cut_at(row, places, 0), row)
        self.assertEqual(cut_at(row, places, 1).bows(), [(FAR - 1, FAR), (4, FAR - 2), (0, FAR)])
        self.assertEqual(cut_at(row, places, FAR).bows(), [(0, 1), (6, FAR), (1, 2)])
        self.assertEqual(cut_at(Row([(0, 1)]), FAR, FAR - 1).bows(), [(1, 2)])
        self.assertEqual(cut_at(Row([(2, FAR // 2)]), FAR, FAR // 2).bows(), [(0, FAR // 2 + 2)])

    def test_the_least_ring(self):
        self.assertEqual(cuts(Row([]), 1), [Row([])])
        self.assertEqual([told.bows() for told in cuts(Row([(0, 1)]), 2)], [[(0, 1)], [(0, 1)]])
        self.assertEqual([told.bows() for told in cuts(Row([(0, 1), (1, 2)]), 3)],
                         [[(0, 1), (1, 2)], [(0, 2), (0, 1)], [(1, 2), (0, 2)]])

    def test_places_without_bows_hardly_matter(self):
        for row in random_rows(84, 3, 5, 5):
            for at in range(5):
                wide = Row([(2 * begin, 2 * end) for begin, end in row])
                self.assertTrue(are_alike(cut_at(wide, 10, 2 * at), cut_at(row, 5, at)))

    def test_rows_over_a_word_stay_such(self):
        row = Row([(0, 4), (1, 3), (2, 5)])
        for told in cuts(row, 6):
            self.assertIsNotNone(word_of(Row(sorted(told.bows()))))

    def test_what_is_told_is_new(self):
        row = Row([(0, 1), (2, 3), (0, 3)])
        check_new(self, lambda: [told.bows() for told in cuts(row, 5)], lambda: cut_at(row, 5, 2).bows(),
                  lambda: cut_at(row, 4, 0).bows())
        told = cuts(row, 5)
        told.clear()
        self.assertEqual(len(cuts(row, 5)), 5)
        self.assertEqual(row.bows(), [(0, 1), (2, 3), (0, 3)])
        self.assertIsNot(cut_at(row, 4, 0), row)


class StaysTest(unittest.TestCase):
    def test_all_kinds(self):
        self.assertEqual(len(STAYING), 16)
        for kind in all_kinds():
            self.assertIs(stays(kind), kind in STAYING)

    def test_it_is_so_for_two_bows(self):
        rows = [Row(bows) for bows in itertools.product(small_bows(4), repeat=2)]
        cut = {tuple(row): [(way_of(*row), way_of(*told)) for told in cuts(row, 4)] for row in rows}
        for kind in all_kinds():
            changed = any((way in kind) != (its in kind) for told in cut.values() for way, its in told)
            self.assertIs(stays(kind), not changed)

    def test_as_many_layers_wherever_it_is_cut(self):
        for row in random_rows(85, 3, 6, 5) + random_rows(86, 2, 7, 9):
            for kind in STAYING:
                self.assertEqual(len({fewest_by_trying(told, kind) for told in cuts(row, 9)}), 1)
        for row in forty_rows()[:3]:
            for kind in STAYING:
                if is_tight(kind):
                    self.assertEqual(len({fewest_layers(told, kind) for told in cuts(row, 60)[::15]}), 1)

    def test_other_kinds_and_kinds_seen_from_behind(self):
        for kind in all_kinds():
            self.assertIs(stays(~kind), stays(kind))
            self.assertIs(stays(kind.turned()), stays(kind))


class ShowingCutTest(unittest.TestCase):
    def test_all_kinds(self):
        for kind in all_kinds():
            told = showing_cut(kind)
            if stays(kind):
                self.assertIsNone(told)
                continue
            self.assertIsInstance(told, tuple)
            row, places, at = told
            self.assertIsInstance(row, Row)
            self.assertEqual(len(row), 2)
            self.assertTrue(0 <= min(row.places()) < max(row.places()) < places)
            self.assertIn(at, range(places))
            needed = [fewest_by_trying(some, kind) for some in (row, cut_at(row, places, at))]
            self.assertEqual(sorted(needed), [1, 2])
            self.assertIs(is_showing_cut(kind, told), True)
            self.assertEqual(showing_cut(kind), told)

    def test_all_small_things(self):
        rows = [Row(bows) for bows in itertools.product(small_bows(4), repeat=2)]
        for kind in all_kinds()[::7] + STAYING[::5]:
            for row in rows[::2]:
                for places in range(7):
                    for at in range(-1, places + 2):
                        right = max(row.places()) < places and 0 <= at < places
                        if right:
                            cut = cut_at(row, places, at)
                            right = fewest_by_trying(row, kind) != fewest_by_trying(cut, kind)
                        self.assertIs(is_showing_cut(kind, (row, places, at)), right)

    def test_rings_of_any_size(self):
        kind = Kind(["apart"])
        two = Row([(0, 1), (2, 3)])
        for places in (4, 5, FAR, FAR + 1, FAR + 2, 10 ** 60):
            self.assertIs(is_showing_cut(kind, (two, places, 1)), True)
            self.assertIs(is_showing_cut(kind, (two, places, 2)), False)
            self.assertIs(is_showing_cut(kind, (two, places, places - 1)), places == 4)
            self.assertIs(is_showing_cut(kind, (two, places, places)), False)
        far = Row([(0, FAR), (FAR - 2, FAR - 1)])
        for places, right in ((FAR - 1, False), (FAR, False), (FAR + 1, True), (10 ** 90, True)):
            self.assertIs(is_showing_cut(kind, (far, places, FAR)), right)

    def test_wrong_values(self):
        kind = Kind(["apart"])
        two = Row([(0, 1), (2, 3)])
        self.assertIs(is_showing_cut(kind, (two, 4, 1)), True)
        wrong = [
            [two, 4, 1], (two, 4), (two, 4, 1, 1), (two.bows(), 4, 1), (tuple(two), 4, 1), (two, 3, 1), (two, 4, 4),
            (two, 4, -1), (two, 4, True), (two, True, 1), (two, "4", 1), (two, 4, None), (two, -4, 1), (4, two, 1),
            (Row([(-1, 1), (2, 3)]), 4, 1), (Row([(-2, -1), (2, 3)]), 4, 3), (Row([]), 4, 1), (Row([(0, 1)]), 4, 1),
            (two.put((0, 1)), 4, 1), (two.put((0, 1)).put((2, 3)), 4, 1), (kind, 4, 1), ((two, 4, 1),), *odd_values(),
        ]
        for thing in wrong:
            self.assertIs(is_showing_cut(kind, thing), False, repr(thing)[:60])
        for thing in odd_values():
            self.assertIs(is_showing_cut(kind, (thing, 4, 1)), False)
            self.assertIs(is_showing_cut(kind, (two, thing, 1)), False)
            self.assertIs(is_showing_cut(kind, (two, 4, thing)), False)
        self.assertEqual(two.bows(), [(0, 1), (2, 3)])

    def test_kinds_of_no_way_and_of_all(self):
        for kind in (Kind([]), Kind(WAYS), Kind(["crossing"]), Kind(["same"])):
            self.assertIs(stays(kind), True)
            self.assertIsNone(showing_cut(kind))

    def test_examples_of_the_document(self):
        told = [cut_at(Row([(0, 1), (2, 3)]), 4, 1).bows(), stays(Kind(["crossing"])), stays(Kind(["apart"]))]
        self.assertEqual(told, [[(0, 3), (1, 2)], True, False])


if __name__ == "__main__":
    unittest.main()
