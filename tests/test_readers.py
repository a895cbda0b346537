"""[3], [4], [100], [102]: texts that are read."""

import itertools
import re
import unittest

from bowkinds.errors import BowError, NoText
from bowkinds.kinds import Kind, all_kinds
from bowkinds.notation import show_bow, show_bows, show_kind, show_layering, show_paper, show_row
from bowkinds.readers import read_bow, read_kind, read_layering, read_paper, read_row
from bowkinds.rows import Row
from bowkinds.tight import paper_of
from helpers import DIRECTIONS, FAR, WAYS, check_new, edge_rows, forty_rows, odd_values, short_rows, small_bows, subsets

NUMBER = r"(0|[1-9][0-9]*)"
PLACE = r"(0|-?[1-9][0-9]*)"
BOW = f"{PLACE}:{PLACE}"
READERS = [read_bow, read_row, read_kind, read_layering, read_paper]
GOOD = {
    read_bow: ["0:1", "-3:-2", "-1:0", "9:10"], read_row: ["-", "0:1", "5:6 0:1 5:6"],
    read_kind: ["-", "apart", "begun,ended,same"], read_layering: ["-", "0", "0,2;1", "7,7;7"],
    read_paper: ["chains -", "levels after,starts", "ends kept", "ends lacked", "ring 0:1 0:1 0:1 0:1 0:1"],
}


def strings(signs, most):
    return ["".join(some) for length in range(most + 1) for some in itertools.product(signs, repeat=length)]


class ReadingCase(unittest.TestCase):
    def fails(self, read, text, line):
        with self.assertRaises(BowError) as caught:
            read(text)
        self.assertIs(caught.exception.__class__, NoText)
        self.assertEqual(repr(caught.exception.line), repr(line), repr(text)[:60])


class ReadersTest(ReadingCase):
    def test_no_string(self):
        for read in READERS:
            for thing in [b"0:1", ["0:1"], ("0:1",), 0, 1, (0, 1), [(0, 1)], Row([]), *odd_values()]:
                if not isinstance(thing, str):
                    self.fails(read, thing, 0)

    def test_odd_strings(self):
        for read in READERS:
            for thing in odd_values():
                if isinstance(thing, str):
                    self.fails(read, thing, 1)

    def test_second_lines(self):
        for read in READERS:
            for text in GOOD[read]:
                read(text)
                for behind in ("\n", "\n\n", "\nx", "\n" + text, "\n ", "\n" * 5000):
                    self.fails(read, text + behind, 2)
                for ahead in ("", "x", " ", text + " ", " " + text, "(" + text + ")", text + "\t"):
                    for behind in ("", "\n", "\n" + text, "\nx"):
                        self.fails(read, ahead + behind, 1)

    def test_blanks(self):
        for read in READERS:
            for text in GOOD[read]:
                for at in range(len(text) + 1):
                    self.fails(read, text[:at] + "  " + text[at:], 1)
        for text in ("0:1  2:3", " 0:1", "0:1 ", "0 :1", "0: 1", " -", "- "):
            self.fails(read_row, text, 1)
        for text in ("0, 2;1", "0,2; 1", "0,2 ;1", " 0", "0 "):
            self.fails(read_layering, text, 1)
        for text in ("apart, begun", " apart", "apart ", "apart begun"):
            self.fails(read_kind, text, 1)
        for text in ("chains  -", "chains - ", " chains -", "ends  kept", "ring  0:1 0:1 0:1 0:1 0:1"):
            self.fails(read_paper, text, 1)

    def test_what_is_told_is_new(self):
        check_new(self, lambda: read_layering("0,2;1"), lambda: read_layering("-"), lambda: read_layering("0,2;1;0"),
                  lambda: read_paper("chains after,starts"), lambda: read_paper("levels -"),
                  lambda: read_paper("ring 0:1 1:3 3:4 2:3 1:2"), lambda: read_row("0:1 2:3").bows(),
                  lambda: read_kind("apart,same").ways(), lambda: read_bow("0:1"))

    def test_examples_of_the_document(self):
        told = Row([(0, 20), (10, 30), (20, 40)])
        self.assertEqual([read_row("0:20 10:30 20:40") == told, read_kind("apart") == Kind(["apart"])], [True, True])


class BowsTest(ReadingCase):
    def test_all_short_strings(self):
        for text in strings("0129:- ", 5):
            right = re.fullmatch(BOW, text)
            if right and int(right[1]) < int(right[2]):
                bow = read_bow(text)
                self.assertIsInstance(bow, tuple)
                self.assertEqual(bow, (int(right[1]), int(right[2])))
                self.assertEqual(show_bow(bow), text)
                self.assertEqual(read_row(text), Row([bow]))
            else:
                self.fails(read_bow, text, 1)

    def test_all_short_rows(self):
        for text in strings(["0:1", "1:0", "-2:1", " ", "-", "0"], 4):
            right = re.fullmatch(f"{BOW}( {BOW})*", text)
            bows = [tuple(map(int, word.split(":"))) for word in text.split(" ")] if right else []
            if text == "-" or bows and all(begin < end for begin, end in bows):
                self.assertEqual(read_row(text), Row(bows))
                self.assertEqual(show_row(read_row(text)), text)
            else:
                self.fails(read_row, text, 1)

    def test_places_at_the_bounds(self):
        far, beyond = "1" + 30 * "0", "1" + 29 * "0" + "1"
        self.assertEqual(read_bow(f"-{far}:{far}"), (-FAR, FAR))
        self.assertEqual(read_bow(f"{30 * '9'}:{far}"), (FAR - 1, FAR))
        for text in (f"0:{beyond}", f"-{beyond}:0", f"-{beyond}:{beyond}", f"0:2{30 * '0'}", f"0:{'9' * 40}",
                     f"0:{'9' * 41}", f"-{'9' * 5000}:0"):
            self.fails(read_bow, text, 1)
            self.fails(read_row, "0:1 " + text, 1)
            self.fails(read_paper, "ring 0:1 0:1 0:1 0:1 " + text, 1)

    def test_signs_and_zeros(self):
        for text in ("-0:1", "00:1", "0:01", "-01:1", "+0:1", "0:+1", "--1:0", "-:1", ":1", "0:", ":", "0:1:2", "0:0",
                     "1:0", "-1:-1", "-1:-2", "0;1", "0,1", "(0, 1)", "0x0:1", "0:1_0", "0:1.0", "0:1e3", "", "a:b"):
            self.fails(read_bow, text, 1)
            self.fails(read_row, text, 1)
        self.fails(read_bow, "-", 1)
        self.fails(read_row, "- -", 1)
        self.fails(read_row, "- 0:1", 1)
        self.fails(read_row, "0:1 -", 1)

    def test_what_is_shown_is_read(self):
        rows = edge_rows() + short_rows() + forty_rows() + [Row([(3, 4)] * 700), Row(small_bows(35))]
        for row in rows:
            told = read_row(show_row(row))
            self.assertIsInstance(told, Row)
            self.assertEqual(told, row)
            for bow in row.bows()[:9]:
                self.assertEqual(read_bow(show_bow(bow)), bow)


class KindsTest(ReadingCase):
    def test_all_kinds(self):
        for kind in all_kinds():
            told = read_kind(show_kind(kind))
            self.assertIsInstance(told, Kind)
            self.assertEqual(told, kind)

    def test_some_words(self):
        for words in itertools.product(["apart", "begun", "within", "same", "-", "", "before"], repeat=2):
            text = ",".join(words)
            if {*words} <= {*WAYS} and words[0] < words[1]:
                self.assertEqual(read_kind(text), Kind(words))
                self.assertEqual(show_kind(read_kind(text)), text)
            else:
                self.fails(read_kind, text, 1)
        for text in ("", ",", "apart,", ",apart", "apart,,begun", "Apart", "apart;begun", "[]", "-,-", "--", "all",
                     "within,apart", "apart,apart", "same,same,within", "apart,begun,begun"):
            self.fails(read_kind, text, 1)


class LayeringsTest(ReadingCase):
    def test_all_short_strings(self):
        for text in strings("012,;-", 5):
            if text == "-":
                self.assertEqual(repr(read_layering(text)), "[]")
            elif re.fullmatch(f"{NUMBER}([,;]{NUMBER})*", text):
                right = [[int(word) for word in part.split(",")] for part in text.split(";")]
                self.assertEqual(repr(read_layering(text)), repr(right))
                self.assertEqual(show_layering(right), text)
            else:
                self.fails(read_layering, text, 1)

    def test_long_numbers(self):
        for number in (10 ** 39, 10 ** 40 - 1, FAR, FAR + 1, 0):
            self.assertEqual(read_layering(str(number)), [[number]])
            self.assertEqual(read_layering(f"3,{number};{number}"), [[3, number], [number]])
        for text in ("1" * 41, "0,1" + "0" * 40, "0;" + "9" * 41, "9" * 5000, "0" * 40, "-1", "0,-1", "+1", "01",
                     "1,00",
                     "-0", "-;0", "0;-", "0,-", "1_0", "1.0", "0x1"):
            self.fails(read_layering, text, 1)

    def test_long_layerings(self):
        for layers in ([[at] for at in range(500)], [list(range(500))], [[7] * 30, [7] * 2, [0, 10 ** 39]]):
            self.assertEqual(read_layering(show_layering(layers)), layers)


class PapersTest(ReadingCase):
    def test_all_papers_of_kinds(self):
        for kind in all_kinds():
            paper = paper_of(kind)
            told = read_paper(show_paper(paper))
            self.assertIsInstance(told, tuple)
            self.assertEqual(told, paper)
            self.assertIsInstance(told[1], (list, str))

    def test_orders(self):
        for form in ("chains", "levels"):
            for some in subsets(DIRECTIONS)[::29]:
                told = read_paper(show_paper((form, some)))
                self.assertEqual(told, (form, some))
                self.assertIsInstance(told[1], list)
            self.assertEqual(read_paper(f"{form} -"), (form, []))
            for text in ("", form, form + " ", form + " x", form + " starts,after", form + " after,after",
                         form + " after,", form + " ,after", form + " apart", form + " -,after", form + " kept",
                         form + " 0:1 0:1 0:1 0:1 0:1", form + ":-", form + "  after", form.upper() + " -",
                         form + " after, starts", form + " after starts", form + "after", " " + form + " -"):
                self.fails(read_paper, text, 1)

    def test_ends(self):
        self.assertEqual([read_paper("ends kept"), read_paper("ends lacked")], [("ends", "kept"), ("ends", "lacked")])
        for text in ("ends", "ends ", "ends -", "ends Kept", "ends kept lacked", "ends kept,lacked", "end kept", "kept",
                     "ends after", "ends 0:1 0:1 0:1 0:1 0:1", "ends kept "):
            self.fails(read_paper, text, 1)

    def test_rings(self):
        for bows in [[(0, 1)] * 5, [(-FAR, FAR), (0, 1), (-5, -4), (0, 1), (3, 9)], small_bows(5)[:5]]:
            told = read_paper(show_paper(("ring", bows)))
            self.assertEqual(told, ("ring", bows))
            self.assertIsInstance(told[1], list)
        for many in (0, 1, 4, 6, 10):
            self.fails(read_paper, "ring " + show_bows([(0, 1)] * many), 1)
        for text in ("ring", "ring ", "ring -", "ring 0:1 0:1 0:1 0:1 1:0", "ring 0:1 0:1 0:1 0:1 0:1 ", "rings -",
                     "ring after", "ring kept", "ring 0:1,0:1,0:1,0:1,0:1", "0:1 0:1 0:1 0:1 0:1", "-", "other -",
                     "x 0:1 0:1 0:1 0:1 0:1"):
            self.fails(read_paper, text, 1)


if __name__ == "__main__":
    unittest.main()
