"""[1] to [4], [9] to [11], [31]: kinds."""

import unittest
from unittest import mock

from bowkinds.bows import turned_bow, way_of
from bowkinds.errors import BowError, Wrong
from bowkinds.kinds import Kind, all_kinds
from helpers import WAYS, odd_values, small_bows, subsets


class MakingTest(unittest.TestCase):
    def test_ways_are_ascending_and_once(self):
        self.assertEqual(Kind([]).ways(), [])
        self.assertEqual(Kind(()).ways(), [])
        self.assertEqual(Kind(WAYS[::-1]).ways(), WAYS)
        self.assertEqual(Kind(["within", "apart", "within", "apart"]).ways(), ["apart", "within"])
        self.assertEqual(Kind(("same", "begun")).ways(), ["begun", "same"])
        self.assertEqual(Kind(["ended"] * 9999).ways(), ["ended"])

    def test_what_is_no_list_of_ways(self):
        wrong = [
            "apart", ["before"], ["apart", None], ["apart", True], [["apart"]], ("apart", 0),
            {"apart": "apart"}, 0, ["apart"] * 9000 + ["apar"], *odd_values(),
        ]
        for thing in wrong:
            with self.assertRaises(BowError) as caught:
                Kind(thing)
            self.assertIs(caught.exception.__class__, Wrong)
            self.assertEqual(repr(caught.exception.place), "0")

    def test_lists_are_copied(self):
        given = ["apart"]
        kind = Kind(given)
        given.append("within")
        told = kind.ways()
        told.append("same")
        self.assertEqual(kind.ways(), ["apart"])
        self.assertEqual(given, ["apart", "within"])
        self.assertIsNot(kind.ways(), kind.ways())


class SetTest(unittest.TestCase):
    def test_as_lists(self):
        for ways in subsets(WAYS):
            kind = Kind(ways)
            self.assertEqual(len(kind), len(ways))
            self.assertEqual(list(kind), ways)
            self.assertEqual([*kind], kind.ways())
            self.assertEqual([way for way in WAYS if way in kind], ways)
            self.assertEqual((~kind).ways(), [way for way in WAYS if way not in ways])
            self.assertEqual(~~kind, kind)

    def test_any_value_may_be_asked_for(self):
        for kind in (Kind([]), Kind(["apart"]), Kind(WAYS)):
            for thing in ["before", ["apart"], ("apart",), 0, 1, *odd_values()]:
                self.assertIs(thing in kind, False)
        self.assertIs("apart" in Kind(["apart"]), True)
        self.assertIs("same" in Kind(["apart"]), False)
        self.assertIs(mock.ANY in Kind(WAYS), False)

    def test_two_kinds(self):
        some = [["begun"], ["apart", "same"], [], WAYS, ["apart", "begun", "within"], ["same"]]
        for one in some:
            for other in some:
                first, second = Kind(one), Kind(other)
                self.assertEqual((first | second).ways(), sorted({*one, *other}))
                self.assertEqual((first & second).ways(), sorted({*one} & {*other}))
                self.assertEqual((first - second).ways(), sorted({*one} - {*other}))
                self.assertIs(first.inside_of(second), {*one} <= {*other})
                self.assertIs(first == second, one == other)
                self.assertIs(first != second, one != other)
                self.assertEqual([first.ways(), second.ways()], [one, other])

    def test_operators_give_kinds(self):
        one, other = Kind(["apart"]), Kind(["same"])
        for made in (~one, one | other, one & other, one - other, one.turned()):
            self.assertIsInstance(made, Kind)

    def test_equal(self):
        self.assertIs(Kind(["same", "apart", "same"]) == Kind(("apart", "same")), True)
        for kind in (Kind([]), Kind(["apart"])):
            for thing in odd_values():
                if not isinstance(thing, Kind):
                    self.assertIs(kind == thing, False)
                    self.assertIs(kind != thing, True)
            for thing in (kind.ways(), tuple(kind), mock.ANY, 0):
                self.assertIs(kind == thing, False)

    def test_turned(self):
        for ways in subsets(WAYS):
            changed = {"begun": "ended", "ended": "begun"}
            self.assertEqual(Kind(ways).turned().ways(), sorted(changed.get(way, way) for way in ways))
            self.assertEqual(Kind(ways).turned().turned(), Kind(ways))

    def test_turned_lets_bows_seen_from_behind(self):
        for kind in (Kind(["begun"]), Kind(["ended", "apart"]), Kind(["begun", "ended"]), Kind(WAYS)):
            for one in small_bows(4):
                for other in small_bows(4):
                    let = kind.turned().lets(turned_bow(one), turned_bow(other))
                    self.assertIs(let, kind.lets(one, other))

    def test_lets(self):
        for kind in (Kind([]), Kind(["apart"]), ~Kind(["apart"]), Kind(["same", "ended"]), Kind(WAYS)):
            for one in small_bows(5):
                for other in small_bows(5):
                    self.assertIs(kind.lets(one, other), way_of(one, other) in kind.ways())
                    self.assertIs((~kind).lets(one, other), not kind.lets(one, other))

    def test_lets_hangs_on_directions_alone(self):
        kind = Kind(["chained", "within"])
        self.assertIs(kind.lets((0, 1), (1, 2)), True)
        self.assertIs(kind.lets((-10 ** 30, 5), (5, 10 ** 30)), True)
        self.assertIs(kind.lets((-10 ** 30, 5), (6, 10 ** 30)), False)


class AllKindsTest(unittest.TestCase):
    def test_all_128_in_their_order(self):
        told = [kind.ways() for kind in all_kinds()]
        self.assertEqual(told, sorted(subsets(WAYS), key=lambda ways: (len(ways), ways)))
        self.assertEqual(len(told), 128)
        self.assertEqual([told[0], told[1], told[-1]], [[], ["apart"], WAYS])

    def test_the_list_is_new(self):
        told = all_kinds()
        told[0].ways().append("apart")
        told.clear()
        self.assertEqual(len(all_kinds()), 128)
        self.assertEqual(all_kinds(), all_kinds())
        self.assertIsNot(all_kinds()[3], all_kinds()[3])

    def test_examples_of_the_document(self):
        apart = Kind(["apart"])
        told = [(~apart).ways()[:2], len(all_kinds()), all_kinds()[8].ways()]
        self.assertEqual(told, [["begun", "chained"], 128, ["apart", "begun"]])


if __name__ == "__main__":
    unittest.main()
