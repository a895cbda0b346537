"""[2] to [4], [9], [11], [52]: numbers of begins and ends, layers with and without common ones."""

import itertools
import unittest

from bowkinds.ends import are_enough, dealt, end_numbers, hued, most_at_an_end, unlike_ends
from bowkinds.layers import in_order
from bowkinds.rows import Row
from helpers import FAR, check_new, edge_rows, fewest, forty_rows, odd_values, random_rows, short_rows, spread

TWICE = Row([(0, 1), (0, 1), (0, 2)])
# Few places, many equal bows: numbers greater than 1 on both sides.
HEAVY = [Row([(0, 3)] * 4 + [(1, 3)] * 2 + [(1, 4)] * 3 + [(0, 4)]), Row([(0, 2)] * 3 + [(0, 1)] * 2 + [(1, 2)] * 4),
         Row([(0, 9)] * 2 + [(1, 9)] * 5 + [(0, 8)] * 5 + [(1, 8)] * 7), *random_rows(11, 6, 12, 4)]


def has_common_end(one, other):
    return one[0] == other[0] or one[1] == other[1]


def is_dealt(row, layer, same):
    return all(has_common_end(row[i], row[j]) and (same or row[i] != row[j]) for i in layer for j in layer if i < j)


def is_hued(row, layer, same):
    return all(not has_common_end(row[i], row[j]) or (same and row[i] == row[j]) for i in layer for j in layer if i < j)


def counts_of(row, same):
    bows = row.bows()
    return {bow: 1 if same else bows.count(bow) for bow in bows}


def sum_of(numbers):
    return sum(numbers[0].values()) + sum(numbers[1].values())


def least_sum(row, same):
    """The least sum of enough numbers, by trying all numbers of the begins."""
    counts = counts_of(row, same)
    begins, ends = sorted({begin for begin, _ in counts}), sorted({end for _, end in counts})
    most = [range(max(count for bow, count in counts.items() if bow[0] == begin) + 1) for begin in begins]
    sums = []
    for numbers in itertools.product(*most):
        told = dict(zip(begins, numbers))
        sums.append(sum(numbers) + sum(max(max(0, count - told[bow[0]]) for bow, count in counts.items()
                                           if bow[1] == end) for end in ends))
    return min(sums)


class EndsTest(unittest.TestCase):
    def check_layers(self, row, layers, is_one, same):
        self.assertIsInstance(layers, list)
        self.assertEqual(sorted(index for layer in layers for index in layer), list(range(len(row))))
        self.assertEqual(in_order(layers), layers)
        for layer in layers:
            self.assertTrue(is_one(row, layer, same))

    def check_numbers(self, row, **named):
        same = named.get("same", False)
        numbers = end_numbers(row, **named)
        self.assertIsInstance(numbers, tuple)
        self.assertEqual(len(numbers), 2)
        for told in numbers:
            self.assertIsInstance(told, dict)
            self.assertEqual(list(told), sorted(told))
            self.assertTrue(all(number.__class__ is int and number >= 1 for number in told.values()))
        self.assertIs(are_enough(row, numbers, **named), True)
        for (begin, end), count in counts_of(row, same).items():
            self.assertGreaterEqual(numbers[0].get(begin, 0) + numbers[1].get(end, 0), count)
        layers = dealt(row, **named)
        self.assertEqual(len(layers), sum_of(numbers))
        self.check_layers(row, layers, is_dealt, same)
        unlike = unlike_ends(row, **named)
        # As many bows: so no enough numbers have a lesser sum.
        self.assertEqual(len(unlike), sum_of(numbers))
        self.assertEqual(unlike, sorted({*unlike}))
        self.assertTrue({*unlike} <= {*range(len(row))})
        for i, j in itertools.combinations(unlike, 2):
            if row[i] == row[j]:
                self.assertFalse(same)
            else:
                self.assertFalse(has_common_end(row[i], row[j]))

    def check_hues(self, row, **named):
        same = named.get("same", False)
        counts = counts_of(row, same)
        sides = {}
        for (begin, end), count in counts.items():
            for key in (("begin", begin), ("end", end)):
                sides[key] = sides.get(key, 0) + count
        told = most_at_an_end(row, **named)
        least = min((-many, *key) for key, many in sides.items()) if sides else (0, "begin", 0)
        self.assertEqual(told, (*least[1:], -least[0]))
        self.assertEqual([part.__class__ for part in told], [str, int, int])
        layers = hued(row, **named)
        self.assertEqual(len(layers), told[2])
        self.check_layers(row, layers, is_hued, same)

    def test_rows(self):
        for row in short_rows() + HEAVY + forty_rows():
            self.check_numbers(row)
            self.check_hues(row)
            for same in (False, True):
                self.check_numbers(row, same=same)
                self.check_hues(row, same=same)
            self.assertEqual(end_numbers(row), end_numbers(row, same=False))
            self.assertEqual(dealt(row), dealt(row, same=False))
            self.assertEqual(unlike_ends(row), unlike_ends(row, same=False))
            self.assertEqual(hued(row), hued(row, same=False))

    def test_many_small_rows(self):
        for row in random_rows(12, 60, 9, 5) + random_rows(13, 30, 30, 9):
            for same in (False, True):
                self.check_numbers(row, same=same)
                self.check_hues(row, same=same)

    def test_least_sums(self):
        for row in short_rows() + HEAVY:
            for same in (False, True):
                self.assertEqual(sum_of(end_numbers(row, same=same)), least_sum(row, same))

    def test_fewest_layers(self):
        for row in [row for row in short_rows() if len(row) < 7]:
            for same in (False, True):
                self.assertEqual(len(dealt(row, same=same)), fewest(row, lambda some: is_dealt(row, some, same)))
                self.assertEqual(len(hued(row, same=same)), fewest(row, lambda some: is_hued(row, some, same)))

    def test_a_row_without_bows(self):
        row = Row([])
        for same in (False, True):
            told = [end_numbers(row, same=same), dealt(row, same=same), unlike_ends(row, same=same),
                    most_at_an_end(row, same=same), hued(row, same=same)]
            self.assertEqual(told, [({}, {}), [], [], ("begin", 0, 0), []])
            self.assertIs(are_enough(row, ({}, {}), same=same), True)

    def test_equal_bows(self):
        row = Row([(-4, FAR)] * 3)
        alone, all_three = [[0], [1], [2]], [[0, 1, 2]]
        self.assertEqual([sum_of(end_numbers(row)), dealt(row), hued(row)], [3, alone, alone])
        self.assertEqual(unlike_ends(row), [0, 1, 2])
        self.assertEqual([dealt(row, same=True), hued(row, same=True)], [all_three, all_three])
        self.assertEqual(len(unlike_ends(row, same=True)), 1)
        self.assertEqual([most_at_an_end(row), most_at_an_end(row, same=True)], [("begin", -4, 3), ("begin", -4, 1)])

    def test_the_least_of_several_ends(self):
        self.assertEqual(most_at_an_end(Row([(3, 4), (-5, 9), (-9, 4), (3, 8), (-5, 7), (0, 9)])), ("begin", -5, 2))
        self.assertEqual(most_at_an_end(Row([(5, 9), (4, 8)])), ("begin", 4, 1))
        self.assertEqual(most_at_an_end(Row([(5, 9), (4, 9), (4, 8), (3, 8)])), ("begin", 4, 2))
        self.assertEqual(most_at_an_end(Row([(5, 9), (4, 9), (3, 8), (2, 8)])), ("end", 8, 2))
        self.assertEqual(most_at_an_end(Row([(-FAR, FAR), (0, FAR)])), ("end", FAR, 2))
        # A begin and an end at one place are no common end.
        self.assertEqual(most_at_an_end(Row([(0, 1), (1, 2), (1, 3), (-1, 1)])), ("begin", 1, 2))

    def test_they_hang_on_directions_alone_and_are_turned_with_the_row(self):
        for row in short_rows() + HEAVY:
            for same in (False, True):
                for other in (spread(row), row.plain()):
                    self.assertEqual(dealt(row, same=same), dealt(other, same=same))
                    self.assertEqual(unlike_ends(row, same=same), unlike_ends(other, same=same))
                    self.assertEqual(hued(row, same=same), hued(other, same=same))
                back = row.turned()
                self.assertEqual(sum_of(end_numbers(back, same=same)), sum_of(end_numbers(row, same=same)))
                self.assertEqual(most_at_an_end(back, same=same)[2], most_at_an_end(row, same=same)[2])

    def test_what_is_told_is_new(self):
        for row in edge_rows() + HEAVY[:2]:
            bows = row.bows()
            check_new(self, lambda: end_numbers(row), lambda: dealt(row), lambda: unlike_ends(row), lambda: hued(row),
                      lambda: end_numbers(row, same=True), lambda: dealt(row, same=True),
                      lambda: unlike_ends(row, same=True), lambda: hued(row, same=True),
                      lambda: most_at_an_end(row), lambda: end_numbers(Row(bows)))
            self.assertEqual(row.bows(), bows)

    def test_examples_of_the_document(self):
        told = [len(dealt(TWICE)), end_numbers(TWICE, same=True), dealt(TWICE, same=True),
                most_at_an_end(TWICE, same=True)]
        self.assertEqual(told, [2, ({0: 1}, {}), [[0, 1, 2]], ("begin", 0, 2)])


class EnoughTest(unittest.TestCase):
    def test_what_is_enough(self):
        right = [({0: 2}, {}), ({0: 1}, {1: 1}), ({}, {1: 2, 2: 1}), ({0: 9}, {}), ({0: 2, -5: 1}, {FAR: 10 ** 40}),
                 ({5: 1, 0: 2, -FAR: 3}, {7: 1}), ({}, {2: 1, 1: 2})]
        few = [({}, {}), ({0: 1}, {}), ({}, {1: 2}), ({}, {1: 1, 2: 1}), ({1: 2}, {}), ({}, {0: 2}), ({0: 1}, {2: 1}),
               ({1: 5, 2: 5}, {0: 5})]
        for thing in right:
            self.assertIs(are_enough(TWICE, thing), True)
            self.assertIs(are_enough(TWICE, thing, same=False), True)
            self.assertIs(are_enough(TWICE, thing, same=True), True)
        for thing in few:
            self.assertIs(are_enough(TWICE, thing), False)
            self.assertIs(are_enough(TWICE, thing, same=False), False)
        told = [are_enough(TWICE, thing, same=True) for thing in few]
        self.assertEqual(told, [False, True, False, True, False, False, True, False])

    def test_all_numbers_of_few_places(self):
        for row in (Row([(0, 1)]), TWICE, Row([(0, 2), (1, 2), (0, 2)])):
            for a, b, c, d in itertools.product(range(4), repeat=4):
                thing = ({0: a, 1: b}, {1: c, 2: d})
                thing = tuple({place: many for place, many in part.items() if many} for part in thing)
                for same in (False, True):
                    right = all(thing[0].get(bow[0], 0) + thing[1].get(bow[1], 0) >= count
                                for bow, count in counts_of(row, same).items())
                    self.assertIs(are_enough(row, thing, same=same), right)

    def test_wrong_values(self):
        full = {0: 2}
        wrong = [
            [full, {}], (full,), (full, {}, {}), (), full, ({0: 2, 1: 0}, {}), ({0: 2, 1: -1}, {}), ({0: 2}, {5: True}),
            ({0: 2, True: 1}, {}), ({False: 2}, {}), ({0: 2}, {FAR + 1: 1}), ({0: 2, -FAR - 1: 1}, {}), ({0: "2"}, {}),
            ({0: 2, "0": 1}, {}), ({0: 2, None: 1}, {}), ({0: 2, (0, 1): 1}, {}), ({0: [2]}, {}), ({0: None}, {}),
            ([(0, 2)], {}), (full, []), (full, None), (None, full), (full, ()), ("", ""), ({0: 2, 1: True}, {}),
            ({number: 1 for number in range(-1, 4000)}, {9: False}), (full, {1: 0}), *odd_values(),
        ]
        for row in (TWICE, Row([])):
            for same in (False, True):
                self.assertIs(are_enough(row, (full, {}), same=same), True)
                for thing in wrong:
                    self.assertIs(are_enough(row, thing, same=same), False, repr(thing)[:60])
        for thing in odd_values():
            if not isinstance(thing, dict):
                self.assertIs(are_enough(TWICE, (full, thing)), False)
                self.assertIs(are_enough(TWICE, (thing, full)), False)

    def test_what_is_asked_stays(self):
        thing = ({0: 2}, {1: 1})
        self.assertIs(are_enough(TWICE, thing), True)
        self.assertEqual(thing, ({0: 2}, {1: 1}))
        thing[0].clear()
        self.assertIs(are_enough(TWICE, thing), False)


if __name__ == "__main__":
    unittest.main()
