"""[2] to [4], [91]: piles and lines."""

import itertools
import unittest

from bowkinds.errors import BadGoing, BowError
from bowkinds.fewest import fewest_layers
from bowkinds.kinds import Kind
from bowkinds.layers import is_layer
from bowkinds.machines import goings_of, is_served, off_a_line, off_a_pile, row_from, serve
from bowkinds.rows import Row
from bowkinds.trees import fewest_by_trying
from bowkinds.words import row_at, row_by, rows_over, word_of, words_of
from helpers import check_new, odd_values

DEEP = "(" * 20 + ")" * 20
FLAT = "()" * 20
SHORT = [word for many in range(5) for word in words_of(many)]
MACHINES = [list(some) for many in range(4) for some in itertools.product(["line", "pile"], repeat=many)]


def rows_over_all(word):
    return [row_at(word, number) for number in range(rows_over(word))]


def come_off(word, machines, served):
    """The orders in which the bows of a word can come off machines that take them in."""
    held = [[] for _ in machines]
    came = 0
    states = [([], held)]
    for sign in word:
        news = []
        for goings, lists in states:
            if sign == "(":
                news.append((goings, [some + [came] if at == served[came] else some for at, some in enumerate(lists)]))
            else:
                for at, some in enumerate(lists):
                    if some:
                        gone, rest = (some[-1], some[:-1]) if machines[at] == "pile" else (some[0], some[1:])
                        news.append((goings + [gone], lists[:at] + [rest] + lists[at + 1:]))
        came += sign == "("
        states = news
    return [goings for goings, _ in states]


class GoingsTest(unittest.TestCase):
    def test_all_rows_over_short_words(self):
        for word in SHORT:
            seen = []
            for row in rows_over_all(word):
                goings = goings_of(row)
                self.assertEqual([row[number][1] for number in goings], sorted(end for _, end in row))
                self.assertEqual(sorted(goings), list(range(len(row))))
                self.assertEqual(row_from(word, goings), row)
                seen.append(goings)
            self.assertEqual(len({*map(tuple, seen)}), rows_over(word))
            for goings in itertools.permutations(range(len(word) // 2)):
                if list(goings) not in seen:
                    with self.assertRaises(BadGoing):
                        row_from(word, list(goings))

    def test_off_one_machine(self):
        for word in SHORT + words_of(6) + [DEEP, FLAT]:
            zero = [0] * (len(word) // 2)
            self.assertEqual([off_a_pile(word)], come_off(word, ["pile"], zero))
            self.assertEqual([off_a_line(word)], come_off(word, ["line"], zero))
            # Off a pile no two bows cross, off a line none is within another one.
            self.assertEqual(row_from(word, off_a_pile(word)), row_at(word, 0))
            self.assertEqual(row_from(word, off_a_line(word)), row_at(word, rows_over(word) - 1))

    def test_the_empty_word_and_the_longest(self):
        self.assertEqual(repr([goings_of(Row([])), off_a_pile(""), off_a_line("")]), "[[], [], []]")
        self.assertEqual(row_from("", []), Row([]))
        self.assertEqual([off_a_pile(DEEP), off_a_line(DEEP)], [list(range(19, -1, -1)), list(range(20))])
        self.assertEqual([off_a_pile(FLAT), off_a_line(FLAT)], [list(range(20))] * 2)
        for number in (0, 1, 10 ** 18, rows_over(DEEP) - 1):
            row = row_at(DEEP, number)
            self.assertEqual(row_from(DEEP, goings_of(row)), row)
            self.assertEqual(word_of(row_from(DEEP, goings_of(row))), DEEP)

    def test_what_is_told_is_new(self):
        row = row_by("(()())", [1, 1, 0])
        bows, goings = row.bows(), goings_of(row)
        kept = list(goings)
        check_new(self, lambda: goings_of(row), lambda: off_a_pile("(()())"), lambda: off_a_line("(()())"),
                  lambda: row_from("(()())", kept).bows(), lambda: goings_of(Row([])), lambda: off_a_line(""))
        self.assertEqual([row.bows(), kept], [bows, goings])


class RowFromTest(unittest.TestCase):
    def fails(self, word, goings, at):
        with self.assertRaises(BowError) as caught:
            row_from(word, goings)
        self.assertIs(caught.exception.__class__, BadGoing)
        self.assertEqual(repr(caught.exception.at), repr(at))

    def test_all_short_lists(self):
        for word in ("", "()", "(())", "()()", "(()())", "((()))", "()(())"):
            ends = [place for place, sign in enumerate(word) if sign == ")"]
            for length in range(5):
                for goings in itertools.product([-1, 0, 1, 2, 3], repeat=length):
                    bad = [at for at in range(length) if at >= len(ends) or goings[at] in goings[:at]
                           or not 0 <= goings[at] < word[:ends[at]].count("(")]
                    if not bad and length < len(ends):
                        bad = [length]
                    if bad:
                        self.fails(word, list(goings), bad[0])
                    else:
                        self.assertEqual(goings_of(row_from(word, list(goings))), list(goings))

    def test_no_list(self):
        for thing in [(1, 0), (), "10", "", None, {0: 1, 1: 0}, 0, True, range(2), *odd_values()]:
            if not isinstance(thing, list):
                self.fails("(())", thing, -1)
                self.fails("", thing, -1)

    def test_odd_members(self):
        for thing in odd_values() + [[0], (0,), "0", 10 ** 30, -1, 2]:
            self.fails("(())", [thing], 0)
            self.fails("(())", [thing, 0], 0)
            self.fails("(())", [1, thing], 1)
            self.fails("(())", [1, 0, thing], 2)
        self.fails("(())", [True, 0], 0)
        self.fails("(())", [1, False], 1)
        self.fails("(())", [0, 0], 1)
        self.fails("()()", [1, 0], 0)

    def test_too_few_and_too_many(self):
        self.fails("((()))", [], 0)
        self.fails("((()))", [1], 1)
        self.fails("((()))", [1, 2], 2)
        self.fails("((()))", [1, 2, 0, 3], 3)
        self.fails("((()))", [1, 2, 0, 0], 3)
        self.fails("", [0], 0)
        self.fails("", [None] * 9, 0)
        self.fails(FLAT, list(range(9999)), 20)
        self.fails(FLAT, list(range(19)), 19)

    def test_goings_stay(self):
        goings = [1, 2, 0]
        self.assertEqual(row_from("(()())", goings).bows(), [(0, 5), (1, 2), (3, 4)])
        self.assertEqual(goings, [1, 2, 0])


class ServeTest(unittest.TestCase):
    def test_all_rows_over_short_words(self):
        for word in SHORT:
            for machines in MACHINES:
                many = len(word) // 2
                by_goings = {}
                for served in itertools.product(range(len(machines)), repeat=many):
                    for goings in come_off(word, machines, served):
                        by_goings.setdefault(tuple(goings), []).append(list(served))
                for row in rows_over_all(word):
                    right = by_goings.get(tuple(goings_of(row)), [])
                    self.assertEqual(serve(row, machines), min(right) if right else None)
                    for served in itertools.product(range(len(machines)), repeat=many):
                        self.assertIs(is_served(row, machines, list(served)), list(served) in right)

    def test_eight_bows(self):
        words = ["(" * 8 + ")" * 8, "((((()()))))()()", "()" * 8, "(()())((()))(())"]
        for word in words:
            for number in range(0, rows_over(word), max(1, rows_over(word) // 40)):
                row = row_at(word, number)
                for machines in MACHINES:
                    told = serve(row, machines)
                    if told is not None:
                        self.assertIs(is_served(row, machines, told), True)
                        self.assertTrue(all(machine.__class__ is int for machine in told))
                for many in (1, 2, 3):
                    for name, way in (("pile", "crossing"), ("line", "within")):
                        told = serve(row, [name] * many)
                        self.assertIs(told is None, fewest_by_trying(row, ~Kind([way])) > many)

    def test_piles_and_lines_are_layers(self):
        for number in range(0, rows_over("(((((())))))"), 7):
            row = row_at("(((((())))))", number)
            for machines in MACHINES[1:]:
                for served in ([0] * 6, [len(machines) - 1, 0] * 3, [at % len(machines) for at in range(6)]):
                    right = True
                    for machine, name in enumerate(machines):
                        layer = [index for index in range(6) if served[index] == machine]
                        kind = ~Kind(["crossing" if name == "pile" else "within"])
                        right = right and is_layer(row, kind, layer)
                    self.assertIs(is_served(row, machines, served), right)
            # Lines alone, as bows within one another stand in an order.
            self.assertIs(serve(row, ["line"] * 3) is None, fewest_layers(row, ~Kind(["within"])) > 3)

    def test_no_machine_and_no_bow(self):
        row = row_at("()", 0)
        for machines in MACHINES:
            self.assertEqual(repr(serve(Row([]), machines)), "[]")
            self.assertIs(is_served(Row([]), machines, []), True)
            self.assertEqual(serve(row, machines), [0] if machines else None)
        self.assertIsNone(serve(row_at(FLAT[:16], 0), []))
        self.assertIs(is_served(row, [], [0]), False)
        self.assertIs(is_served(row, [], []), False)

    def test_the_least_list(self):
        row = row_by("((()))", [1, 1, 0])
        self.assertEqual([serve(row, some) for some in (["line", "pile"], ["pile", "line"], ["line", "line"],
                                                        ["pile", "pile"], ["pile", "pile", "line"])],
                         [[0, 1, 0], [0, 0, 1], [0, 1, 0], [0, 0, 1], [0, 0, 1]])
        self.assertIs(is_served(row, ["pile", "pile", "line"], [2, 0, 2]), True)

    def test_wrong_values(self):
        row, machines = row_by("((()))", [1, 1, 0]), ["pile", "line"]
        self.assertIs(is_served(row, machines, [0, 0, 1]), True)
        wrong = [(0, 0, 1), [0, 0], [0, 0, 1, 1], [0, 0, 2], [0, -1, 1], [0, False, 1], [0, 0, True], [0, 0, "1"],
                 [0, 0, None], [0, 0, [1]], "001", {0: 0, 1: 0, 2: 1}, [[0, 0, 1]], [0] * 9999, *odd_values()]
        for thing in wrong:
            self.assertIs(is_served(row, machines, thing), False, repr(thing)[:50])
        for thing in odd_values():
            self.assertIs(is_served(row, machines, [0, 0, thing]), False)
            self.assertIs(is_served(Row([]), machines, thing), isinstance(thing, list) and thing == [])

    def test_what_is_told_is_new(self):
        row = row_by("((()))", [1, 1, 0])
        bows, machines, served = row.bows(), ["pile", "line"], [0, 0, 1]
        check_new(self, lambda: serve(row, machines), lambda: serve(row, ["line", "line"]),
                  lambda: serve(Row([]), machines), lambda: serve(Row([]), []),
                  lambda: is_served(row, machines, served))
        self.assertEqual([row.bows(), machines, served], [bows, ["pile", "line"], [0, 0, 1]])

    def test_examples_of_the_document(self):
        row = row_at("((()))", 3)
        self.assertEqual([goings_of(row), serve(row, ["pile"]), serve(row, ["pile", "line"])],
                         [[1, 0, 2], None, [0, 0, 1]])
        told = [off_a_pile("(()())"), off_a_line("(()())"), row_from("(())", [0, 1]).bows()]
        self.assertEqual(told, [[1, 2, 0], [0, 1, 2], [(0, 2), (1, 3)]])


if __name__ == "__main__":
    unittest.main()
