"""[2] to [4], [9], [11], [30]: rows."""

import unittest
from unittest import mock

from bowkinds.bows import direction_of, way_of
from bowkinds.errors import BowError, NoBow, Wrong
from bowkinds.rows import Row, are_alike, directions_in
from helpers import FAR, REVERSES, odd_values, small_bows

THREE = [(0, 20), (10, 30), (20, 40)]
LONG = [(at * 7 % 50 - 20, at * 7 % 50 - 19 + at % 11) for at in range(60)]


class RowTest(unittest.TestCase):
    def wrong(self, asked, *told):
        with self.assertRaises(BowError) as caught:
            asked(*told)
        self.assertIs(caught.exception.__class__, Wrong)
        self.assertEqual(repr(caught.exception.place), "0")

    def no_bow(self, index, asked, *told):
        with self.assertRaises(BowError) as caught:
            asked(*told)
        self.assertIs(caught.exception.__class__, NoBow)
        self.assertIs(caught.exception.index, index)


class MakingTest(RowTest):
    def test_as_lists(self):
        for bows in ([], [(0, 1)], THREE, [(0, 1)] * 3, LONG, [(0, 1), (5, 9)] * 2500, small_bows(12),
                     [(-FAR, FAR), (FAR - 1, FAR)]):
            row = Row(bows)
            self.assertEqual(row.bows(), bows)
            self.assertEqual(len(row), len(bows))
            self.assertEqual(list(row), bows)
            self.assertEqual([*row], bows)
            self.assertEqual([row[index] for index in range(len(bows))], bows)
            self.assertEqual(Row(tuple(bows)), row)
            self.assertEqual(row.places(), sorted({place for bow in bows for place in bow}))

    def test_what_is_no_list_of_bows(self):
        for thing in [(0, 1), [[0, 1]], [(1, 1)], [(0, 1), None], [(0, True)], [(False, 1)], [[(0, 1)]],
                      [(0, FAR + 1)], [(-FAR - 1, 0)], {(0, 1): 1}, [(0, 1)] * 9000 + [(1, 0)],
                      Row([]), Row([(0, 1)]), "", *odd_values()]:
            self.wrong(Row, thing)

    def test_lists_are_copied(self):
        given = [(0, 1)]
        row = Row(given)
        given.append((1, 2))
        row.bows().append((2, 3))
        row.places().clear()
        self.assertEqual(row.bows(), [(0, 1)])
        self.assertEqual(row.places(), [0, 1])
        self.assertEqual(row, Row([(0, 1)]))
        self.assertEqual(given, [(0, 1), (1, 2)])

    def test_equal(self):
        self.assertIs(Row(THREE) == Row(tuple(THREE)), True)
        self.assertIs(Row(THREE) != Row(tuple(THREE)), False)
        self.assertIs(Row(THREE) == Row(THREE[::-1]), False)
        self.assertIs(Row([(0, 1)]) == Row([(0, 1)] * 2), False)
        for row in (Row([]), Row([(0, 1)])):
            for thing in [row.bows(), tuple(row), mock.ANY, 0, *odd_values()]:
                self.assertIs(row == thing, False)
                self.assertIs(row != thing, True)


class IndexTest(RowTest):
    def test_what_is_no_index(self):
        for bows in ([], [(0, 1)], THREE):
            row = Row(bows)
            for thing in [len(bows), -1, -len(bows) - 1, 10 ** 30, "0", [0], (0,), slice(0, 1), *odd_values()]:
                self.no_bow(thing, lambda index: row[index], thing)
                self.no_bow(thing, row.without, thing)
                self.no_bow(thing, row.only, [thing])
                self.no_bow(thing, row.only, [0] * len(bows) + [thing, "later"])

    def test_without(self):
        row = Row(THREE)
        self.assertEqual(row.without(0).bows(), THREE[1:])
        self.assertEqual(row.without(1).bows(), [THREE[0], THREE[2]])
        self.assertEqual(row.without(2).bows(), THREE[:2])
        self.assertEqual(Row([(0, 1), (0, 1)]).without(0), Row([(0, 1)]))
        self.assertEqual(Row([(0, 1)]).without(0), Row([]))
        self.assertEqual(row.bows(), THREE)

    def test_only(self):
        row = Row(THREE)
        self.assertEqual(row.only([]), Row([]))
        self.assertEqual(row.only([2, 0, 0]).bows(), [THREE[2], THREE[0], THREE[0]])
        self.assertEqual(row.only([0, 1, 2]), row)
        self.assertEqual(Row([]).only([]), Row([]))
        given = [1]
        self.assertEqual(row.only(given).bows(), [THREE[1]])
        self.assertEqual([given, row.bows()], [[1], THREE])

    def test_the_first_wrong_one_is_told(self):
        with self.assertRaises(NoBow) as caught:
            Row(THREE).only([0, 3, -1])
        self.assertEqual(caught.exception.index, 3)
        with self.assertRaises(NoBow) as caught:
            Row(THREE).only([True, 3])
        self.assertIs(caught.exception.index, True)


class ChangedRowsTest(RowTest):
    def test_put(self):
        row = Row(THREE)
        self.assertEqual(row.put((0, 20)).bows(), [*THREE, (0, 20)])
        self.assertEqual(Row([]).put((-FAR, FAR)).bows(), [(-FAR, FAR)])
        self.assertEqual(row.bows(), THREE)

    def test_what_is_no_bow(self):
        row = Row(THREE)
        for thing in [(0, 0), (1, 0), [0, 1], (0, True), (0, FAR + 1), (0, 1, 2), ((0, 1),), [(0, 1)], 3, Row([]),
                      *odd_values()]:
            self.wrong(row.put, thing)
        self.assertEqual(row.bows(), THREE)

    def test_turned(self):
        row = Row(THREE)
        self.assertEqual(row.turned().bows(), [(-20, 0), (-30, -10), (-40, -20)])
        self.assertEqual(Row([]).turned(), Row([]))
        self.assertEqual(Row(LONG).turned().turned(), Row(LONG))
        self.assertEqual(row.bows(), THREE)

    def test_turning_exchanges_begun_and_ended_alone(self):
        row, turned = Row(LONG), Row(LONG).turned()
        changed = {"begun": "ended", "ended": "begun"}
        for i in range(len(row)):
            for j in range(len(row)):
                way = way_of(row[i], row[j])
                self.assertEqual(way_of(turned[i], turned[j]), changed.get(way, way))

    def test_moved(self):
        row = Row(THREE)
        self.assertEqual(row.moved(5).bows(), [(5, 25), (15, 35), (25, 45)])
        self.assertEqual(row.moved(-30).bows(), [(-30, -10), (-20, 0), (-10, 10)])
        self.assertEqual(row.moved(0), row)
        self.assertEqual(row.moved(FAR - 40)[2], (FAR - 20, FAR))
        self.assertEqual(Row([]).moved(9), Row([]))
        self.assertEqual(row.bows(), THREE)

    def test_moving_beyond_the_bounds_is_no_error(self):
        moved = Row(THREE).moved(FAR)
        self.assertEqual(moved[0], (FAR, FAR + 20))
        self.assertEqual(moved.plain(), Row(THREE).plain())
        self.assertEqual(len(moved | moved), 6)

    def test_plain(self):
        self.assertEqual(Row(THREE).plain().bows(), [(0, 2), (1, 3), (2, 4)])
        self.assertEqual(Row([]).plain(), Row([]))
        self.assertEqual(Row([(-FAR, FAR), (5, FAR), (5, 6)]).plain().bows(), [(0, 3), (1, 3), (1, 2)])
        for bows in (THREE, LONG, [(5, 7)] * 3):
            plain = Row(bows).plain()
            self.assertEqual(plain.places(), list(range(len(Row(bows).places()))))
            self.assertEqual(plain.plain(), plain)
            self.assertIs(are_alike(plain, Row(bows)), True)

    def test_joined(self):
        one, other = Row(THREE), Row([(0, 1), (0, 20)])
        self.assertEqual((one | other).bows(), [*THREE, (0, 1), (0, 20)])
        self.assertEqual((other | one).bows(), [(0, 1), (0, 20), *THREE])
        self.assertEqual(Row([]) | one, one)
        self.assertEqual(one | Row([]), one)
        self.assertEqual([one.bows(), other.bows()], [THREE, [(0, 1), (0, 20)]])

    def test_rows_are_told(self):
        row = Row(THREE)
        for made in (row.put((0, 1)), row.without(0), row.only([0]), row.turned(), row.moved(1), row.plain(),
                     row | row):
            self.assertIsInstance(made, Row)


class DirectionsTest(RowTest):
    def test_directions_in(self):
        self.assertEqual(directions_in(Row([])), [])
        self.assertEqual(directions_in(Row([(0, 1)])), [])
        self.assertEqual(directions_in(Row([(0, 1), (0, 1)])), ["same"])
        four = Row([(0, 1), (1, 3), (0, 3), (5, 6)])
        told = ["meets", "starts", "before", "finishes", "before", "before"]
        self.assertEqual(directions_in(four), told)
        row = Row(LONG)
        told = [direction_of(LONG[i], LONG[j]) for i in range(60) for j in range(60) if i < j]
        self.assertEqual(directions_in(row), told)
        directions_in(row).clear()
        self.assertEqual(directions_in(row), told)

    def test_are_alike(self):
        self.assertIs(are_alike(Row([]), Row([])), True)
        self.assertIs(are_alike(Row([]), Row([(0, 1)])), False)
        self.assertIs(are_alike(Row([(0, 1)]), Row([(5, 9)])), True)
        self.assertIs(are_alike(Row([(0, 1)] * 2), Row([(0, 1)] * 3)), False)
        self.assertIs(are_alike(Row([(0, 1), (1, 2)]), Row([(0, 1), (2, 3)])), False)
        self.assertIs(are_alike(Row([(0, 1), (2, 3)]), Row([(2, 3), (0, 1)])), False)
        self.assertIs(are_alike(Row(THREE), Row(THREE).moved(-99)), True)
        self.assertIs(are_alike(Row(THREE), Row(THREE[::-1])), False)

    def test_alike_is_to_have_one_plain_row(self):
        bows = small_bows(4)
        rows = [Row([one, other]) for one in bows for other in bows]
        for row in rows:
            for other in rows:
                self.assertIs(are_alike(row, other), row.plain() == other.plain())

    def test_seen_from_behind(self):
        row = Row(LONG)
        seen = {"starts": "finishes", "started": "finished", "finishes": "starts", "finished": "started"}
        turned = [seen.get(told, told if told in ("inside", "holds", "same") else REVERSES[told])
                  for told in directions_in(row)]
        self.assertEqual(directions_in(row.turned()), turned)

    def test_examples_of_the_document(self):
        row = Row(THREE)
        told = [directions_in(row), row.plain().bows(), are_alike(row, row.plain()), row.turned().bows()[0]]
        right = [["crosses", "meets", "crosses"], [(0, 2), (1, 3), (2, 4)], True, (-20, 0)]
        self.assertEqual(told, right)


if __name__ == "__main__":
    unittest.main()
