"""[2], [21]: what any value is."""

import unittest

from bowkinds import values
from helpers import DIRECTIONS, FAR, WAYS, odd_values

ASKED = [
    values.is_integer, values.is_place, values.is_bow, values.are_bows, values.is_way,
    values.are_ways, values.is_direction, values.are_directions,
]


class ValuesTest(unittest.TestCase):
    def check(self, asked, right, wrong):
        for thing in right:
            self.assertIs(asked(thing), True, repr(thing)[:80])
        for thing in wrong:
            self.assertIs(asked(thing), False, repr(thing)[:80])

    def test_integers(self):
        right = [0, 1, -1, FAR, -FAR, FAR + 1, 10 ** 800]
        self.check(values.is_integer, right, [(0,), [0], "0", *odd_values()])

    def test_places(self):
        right = [0, 1, -1, FAR, -FAR]
        self.check(values.is_place, right, [FAR + 1, -FAR - 1, 10 ** 800, (0,), *odd_values()])

    def test_bows(self):
        right = [(0, 1), (-5, 7), (-FAR, FAR), (FAR - 1, FAR), (-FAR, -FAR + 1)]
        wrong = [
            (0, 0), (1, 0), [0, 1], (0,), (0, 1, 2), (), 5, "01", {0: 1, 1: 2},
            (False, True), (0, True), (False, 1), (None, 1), (0, None), ("0", "1"), (0, "1"),
            ([0], [1]), (0, [1]), ((0,), 1), ((0, 1), (2, 3)), (0, FAR + 1), (-FAR - 1, 0),
            (FAR, FAR + 1), *odd_values(),
        ]
        self.check(values.is_bow, right, wrong)

    def test_lists_of_bows(self):
        right = [[], (), [(0, 1)], ((0, 1), (0, 1)), [(3, 9), (0, 1), (3, 9)], [(0, 1)] * 5000]
        wrong = [
            (0, 1), [0, 1], [[0, 1]], [(0, 1), None], [(0, 1), (1, 1)], [(0, 1)] * 99 + [(1, 0)],
            [(0, True)], {(0, 1): (0, 1)}, {(0, 1)}, [[(0, 1)]], "", *odd_values(),
        ]
        self.check(values.are_bows, right, wrong)

    def test_ways(self):
        wrong = ["before", "Apart", "apart\n", ["apart"], ("apart",), 0, *odd_values()]
        self.check(values.is_way, WAYS, wrong)

    def test_lists_of_ways(self):
        right = [[], (), WAYS, tuple(WAYS), WAYS[::-1], ["same", "same"], ["within"] * 9000]
        wrong = ["apart", ["before"], ["apart", None], [["apart"]], ("apart", True), "", {"apart": 1},
                 *odd_values()]
        self.check(values.are_ways, right, wrong)

    def test_directions(self):
        wrong = ["apart", "within", "Before", ["before"], ("before",), 0, *odd_values()]
        self.check(values.is_direction, DIRECTIONS, wrong)

    def test_lists_of_directions(self):
        right = [[], DIRECTIONS, ["before"], ["after", "before"], ["crossed", "crosses"], ["meets", "met"]]
        wrong = [
            (), ("before",), tuple(DIRECTIONS), DIRECTIONS[::-1], ["before", "after"], "before",
            ["before", "before"], ["before"] * 9000, ["apart"], ["after", None], [["after"]], {"after": 1},
            ["after", True], [1, 2], *odd_values(),
        ]
        self.check(values.are_directions, right, wrong)

    def test_nothing_is_changed(self):
        for asked in ASKED:
            for thing in [[(0, 1), (0, 2)], ["apart"], ["after", "before"], [[], {}]]:
                told = repr(thing)
                asked(thing)
                self.assertEqual(repr(thing), told)

    def test_what_is_changed_is_asked_anew(self):
        thing = []
        self.assertIs(values.are_bows(thing), True)
        thing.append("apart")
        self.assertIs(values.are_bows(thing), False)
        self.assertIs(values.are_ways(thing), True)
        thing[0] = "before"
        self.assertIs(values.are_ways(thing), False)
        self.assertIs(values.are_directions(thing), True)


if __name__ == "__main__":
    unittest.main()
