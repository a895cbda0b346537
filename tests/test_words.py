"""[2] to [4], [9], [11], [90]: words, and the rows that stand over them."""

import itertools
import math
import unittest

from bowkinds.bows import way_of
from bowkinds.compared import way_counts
from bowkinds.errors import BadDigit, BowError, NoNumber
from bowkinds.rows import Row
from bowkinds.words import (crossings, depths, digits_of, is_word, nestings, number_of, row_at, row_by, rows_over,
                            word_of, words_of)
from helpers import FAR, check_new, edge_rows, forty_rows, odd_values, short_rows, small_bows, spread

DEEP = "(" * 20 + ")" * 20
FLAT = "()" * 20


def every_word(many):
    """All words with so many bows, by the document's words."""
    found = []
    for signs in itertools.product("()", repeat=2 * many):
        heights = [signs[:at].count("(") - signs[:at].count(")") for at in range(2 * many + 1)]
        if min(heights) == 0 == heights[-1]:
            found.append("".join(signs))
    return sorted(found)


def every_row(word):
    """All rows over a word, by the document's words."""
    begins = [place for place, sign in enumerate(word) if sign == "("]
    ends = [place for place, sign in enumerate(word) if sign == ")"]
    found = [list(zip(begins, some)) for some in itertools.permutations(ends)]
    return [Row(bows) for bows in found if all(begin < end for begin, end in bows)]


SHORT = [word for many in range(5) for word in every_word(many)]


class IsWordTest(unittest.TestCase):
    def test_all_short_strings(self):
        for length in range(9):
            right = every_word(length // 2) if length % 2 == 0 else []
            for signs in itertools.product("()", repeat=length):
                self.assertIs(is_word("".join(signs)), "".join(signs) in right)

    def test_the_longest(self):
        for word in ("", DEEP, FLAT, "(" * 7 + FLAT[:26] + ")" * 7):
            self.assertIs(is_word(word), True)
        for word in (DEEP + "()", "(" + DEEP + ")", FLAT + "()", DEEP[:-1], "(" + DEEP, "()" * 5000, "(" * 9999):
            self.assertIs(is_word(word), False)

    def test_wrong_values(self):
        wrong = [")(", "())(", "(", ")", " ", "(x", "(]", "( ", "()(1", "(()\n", "()\n", "\n()",
                 "( )", "[]", "(x)", "((1))", ["()"], ("()",), ["(", ")"], b"()", 0, 1, -1, {"()": True}, {"()"},
                 *odd_values()]
        for thing in wrong:
            self.assertIs(is_word(thing), isinstance(thing, str) and thing == "", repr(thing)[:50])


class DepthsTest(unittest.TestCase):
    def test_short_words(self):
        for word in SHORT:
            ends = [place for place, sign in enumerate(word) if sign == ")"]
            right = [word[:end].count("(") - word[:end].count(")") for end in ends]
            self.assertEqual(repr(depths(word)), repr(right))
            self.assertEqual(repr(rows_over(word)), repr(math.prod(right)))
            self.assertEqual(rows_over(word), len(every_row(word)))

    def test_the_empty_word_and_the_longest(self):
        self.assertEqual(repr([depths(""), rows_over("")]), "[[], 1]")
        self.assertEqual([depths(DEEP), rows_over(DEEP)], [list(range(20, 0, -1)), math.factorial(20)])
        self.assertEqual([depths(FLAT), rows_over(FLAT)], [[1] * 20, 1])


class RowsOverTest(unittest.TestCase):
    def test_all_rows_over_short_words(self):
        for word in SHORT:
            rows = every_row(word)
            found = []
            for number in range(len(rows)):
                row = row_at(word, number)
                self.assertIsInstance(row, Row)
                self.assertEqual(repr(number_of(row)), repr(number))
                self.assertEqual(word_of(row), word)
                self.assertEqual(row_by(word, digits_of(row)), row)
                found.append(row.bows())
            self.assertEqual(sorted(found), sorted(row.bows() for row in rows))
            # They are numbered as their lists of digits ascend.
            digits = [digits_of(row_at(word, number)) for number in range(len(rows))]
            right = [list(told) for told in itertools.product(*[range(depth) for depth in depths(word)])]
            self.assertEqual(digits, right)

    def test_digits_by_hand(self):
        for word in SHORT:
            for row in every_row(word):
                right = []
                for end, begin in sorted((end, begin) for begin, end in row):
                    right.append(len([bow for bow in row if begin < bow[0] < end < bow[1]]))
                self.assertEqual(digits_of(row), right)
                self.assertTrue(all(digit.__class__ is int for digit in digits_of(row)))

    def test_digits_tell_the_crossings(self):
        for word in SHORT:
            for row in every_row(word):
                ways = [way_of(row[i], row[j]) for i in range(len(row)) for j in range(i)]
                self.assertEqual(crossings(row), sum(digits_of(row)))
                self.assertEqual([crossings(row), nestings(row)], [ways.count("crossing"), ways.count("within")])
                self.assertEqual(crossings(row) + nestings(row), sum(depths(word)) - len(row))

    def test_long_words(self):
        for word in (DEEP, FLAT, "(" * 7 + FLAT[:26] + ")" * 7, "((())())" * 5, "(((" + FLAT[:34] + ")))"):
            many = rows_over(word)
            for number in sorted({0, 1 % many, many // 2, many // 3 * 2, many - 1}):
                row = row_at(word, number)
                self.assertEqual([len(row), number_of(row), word_of(row)], [20, number, word])
                self.assertEqual(row.places(), list(range(40)))
                self.assertEqual(row_by(word, digits_of(row)), row)
                self.assertEqual(crossings(row), sum(digits_of(row)))
                self.assertEqual(crossings(row) + nestings(row), sum(depths(word)) - 20)
            self.assertEqual(digits_of(row_at(word, 0)), [0] * 20)
            self.assertEqual(digits_of(row_at(word, many - 1)), [depth - 1 for depth in depths(word)])
        self.assertEqual(row_at(DEEP, 0).bows(), [(at, 39 - at) for at in range(20)])
        self.assertEqual(row_at(DEEP, rows_over(DEEP) - 1).bows(), [(at, 20 + at) for at in range(20)])

    def test_the_empty_word(self):
        row = row_at("", 0)
        self.assertEqual([row.bows(), digits_of(row), number_of(row), word_of(row)], [[], [], 0, ""])
        self.assertEqual(row_by("", []), row)

    def test_what_is_told_is_new(self):
        row = row_at("(()())", 1)
        bows = row.bows()
        digits = digits_of(row)
        kept = list(digits)
        check_new(self, lambda: digits_of(row), lambda: depths("(()())"), lambda: words_of(3), lambda: words_of(0),
                  lambda: depths(""), lambda: row_by("(()())", kept).bows(), lambda: row_at("(()())", 1).bows())
        row_by("(()())", kept)
        self.assertEqual([row.bows(), kept], [bows, digits])


class RowByTest(unittest.TestCase):
    def fails(self, word, digits, at):
        with self.assertRaises(BowError) as caught:
            row_by(word, digits)
        self.assertIs(caught.exception.__class__, BadDigit)
        self.assertEqual(repr(caught.exception.at), repr(at))

    def test_all_short_lists(self):
        for word in ("", "()", "(())", "()()", "(()())", "((()))"):
            bounds = depths(word)
            for length in range(5):
                for digits in itertools.product([-1, 0, 1, 2, 3], repeat=length):
                    bad = [at for at in range(length) if at >= len(bounds) or not 0 <= digits[at] < bounds[at]]
                    if not bad and length < len(bounds):
                        bad = [length]
                    if bad:
                        self.fails(word, list(digits), bad[0])
                    else:
                        self.assertEqual(digits_of(row_by(word, list(digits))), list(digits))

    def test_no_list(self):
        for thing in [(0, 0), (), "00", "", None, {0: 0, 1: 0}, 0, True, range(2), *odd_values()]:
            if not isinstance(thing, list):
                self.fails("(())", thing, -1)
                self.fails("", thing, -1)

    def test_odd_members(self):
        for thing in odd_values() + [[0], (0,), "0", 10 ** 30, -1]:
            self.fails("(())", [thing], 0)
            self.fails("(())", [thing, 0], 0)
            self.fails("(())", [1, thing], 1)
            self.fails("(())", [1, 0, thing], 2)
        self.fails("(())", [True, False], 0)
        self.fails("(())", [1, False], 1)
        self.fails("((()))", [2, 9, True], 1)
        self.fails("(())", [9], 0)

    def test_too_few_and_too_many(self):
        self.fails("((()))", [], 0)
        self.fails("((()))", [1], 1)
        self.fails("((()))", [1, 1], 2)
        self.fails("((()))", [1, 1, 0, 0], 3)
        self.fails("", [0], 0)
        self.fails("", [None] * 10, 0)
        self.fails(DEEP, [0] * 9999, 20)
        self.fails(DEEP, [0] * 19, 19)
        self.fails(FLAT, [0] * 19 + [1], 19)

    def test_digits_stay(self):
        digits = [2, 0, 0]
        self.assertEqual(row_by("((()))", digits).bows(), [(0, 3), (1, 5), (2, 4)])
        self.assertEqual(digits, [2, 0, 0])


class WordOfTest(unittest.TestCase):
    def test_rows_over_no_word(self):
        rows = [
            Row([(0, 2)]), Row([(1, 2)]), Row([(-1, 0)]), Row([(0, 1), (0, 1)]), Row([(0, 1), (1, 2)]),
            Row([(2, 3), (0, 1)]), Row([(1, 2), (0, 3)]), Row([(0, 1), (2, 4)]), Row([(0, 3), (1, 3)]),
            Row([(0, 3), (0, 2), (1, 2)]), Row([(1, 2), (3, 4)]), Row([(0, FAR)]), Row([(0, 2), (1, 4)]),
            Row([(at, at + 1) for at in range(0, 42, 2)]), Row([(at, 41 - at) for at in range(21)]),
            Row([(at, at + 1) for at in range(0, 80, 2)]), *forty_rows(),
        ]
        for row in rows:
            self.assertIsNone(word_of(row))

    def test_all_rows_of_small_bows(self):
        right = {tuple(row): word for word in SHORT for row in every_row(word)}
        for many in range(4):
            for bows in itertools.product(small_bows(6 if many < 3 else 5), repeat=many):
                self.assertEqual(word_of(Row(bows)), right.get(bows))

    def test_the_longest(self):
        row = Row([(at, at + 1) for at in range(0, 40, 2)])
        self.assertEqual(word_of(row), FLAT)
        self.assertIsNone(word_of(row.put((40, 41))))
        self.assertEqual(word_of(row.put((40, 41)).without(20)), FLAT)
        self.assertEqual(word_of(Row([])), "")


class NumbersTest(unittest.TestCase):
    def fails(self, word, number):
        with self.assertRaises(BowError) as caught:
            row_at(word, number)
        self.assertIs(caught.exception.__class__, NoNumber)
        self.assertIs(caught.exception.number, number)

    def test_numbers_that_are_none(self):
        for word in SHORT + [DEEP, FLAT]:
            many = rows_over(word)
            self.assertEqual(number_of(row_at(word, many - 1)), many - 1)
            for number in (many, many + 1, -1, -many, 10 ** 30, -10 ** 30):
                self.fails(word, number)

    def test_any_values(self):
        for thing in odd_values() + ["0", [0], (0,), [[1]]]:
            self.fails("", thing)
            self.fails("((()))", thing)


class CountsTest(unittest.TestCase):
    def test_any_rows(self):
        for row in short_rows() + edge_rows() + forty_rows():
            counts = way_counts(row)
            for other in (row, row.turned(), spread(row), row.plain()):
                self.assertEqual(repr(crossings(other)), repr(counts.get("crossing", 0)))
                self.assertEqual(repr(nestings(other)), repr(counts.get("within", 0)))

    def test_by_hand(self):
        row = Row([(0, 3), (4, 7), (1, 8), (2, 5), (6, 9)])
        self.assertEqual([crossings(row), nestings(row)], [5, 2])
        self.assertEqual([crossings(Row([])), nestings(Row([]))], [0, 0])
        self.assertEqual([crossings(Row([(0, 9)] * 3)), nestings(Row([(0, 9)] * 3))], [0, 0])
        row = Row([(at, at + 40) for at in range(40)])
        self.assertEqual([crossings(row), nestings(row), crossings(row.put((-1, 99)))], [780, 0, 780])


class WordsTest(unittest.TestCase):
    def test_all_words(self):
        for many in range(7):
            told = words_of(many)
            self.assertEqual(told, every_word(many))
            self.assertEqual(len(told), [1, 1, 2, 5, 14, 42, 132][many])
            self.assertTrue(all(is_word(word) for word in told))

    def test_examples_of_the_document(self):
        row = Row([(0, 3), (1, 2)])
        told = [depths("(())()"), rows_over("((()))"), row_at("(())", 1).bows(), number_of(row), word_of(row)]
        self.assertEqual(told, [[2, 1, 1], 6, [(0, 2), (1, 3)], 0, "(())"])
        row = row_at("((()))", 3)
        self.assertEqual([row.bows(), digits_of(row), crossings(row), nestings(row)],
                         [[(0, 4), (1, 3), (2, 5)], [1, 1, 0], 2, 1])


if __name__ == "__main__":
    unittest.main()
