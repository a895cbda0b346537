"""[3], [100], [101]: texts and pictures."""

import unittest

from bowkinds.kinds import Kind, all_kinds
from bowkinds.notation import (show_bow, show_bows, show_kind, show_layer, show_layering, show_paper, show_picture,
                               show_row)
from bowkinds.rows import Row
from bowkinds.tight import paper_of
from helpers import DIRECTIONS, FAR, WAYS, edge_rows, forty_rows, short_rows, small_bows, subsets


class TextsTest(unittest.TestCase):
    def test_bows(self):
        right = {
            (0, 1): "0:1", (-1, 0): "-1:0", (-12, -3): "-12:-3", (7, 10): "7:10",
            (-FAR, FAR): "-1" + 30 * "0" + ":1" + 30 * "0", (FAR - 1, FAR): 30 * "9" + ":1" + 30 * "0",
        }
        for bow, text in right.items():
            self.assertEqual(show_bow(bow), text)
            self.assertEqual(show_bows([bow]), text)
            self.assertEqual(show_row(Row([bow])), text)

    def test_lists_of_bows_and_rows(self):
        self.assertEqual([show_bows([]), show_row(Row([]))], ["-", "-"])
        self.assertEqual(show_bows([(3, 4), (-5, 4), (3, 4)]), "3:4 -5:4 3:4")
        for row in edge_rows() + forty_rows() + [Row([(0, 1)] * 500), Row(small_bows(30))]:
            bows = row.bows()
            right = " ".join(f"{begin}:{end}" for begin, end in bows) or "-"
            self.assertEqual([show_row(row), show_bows(bows)], [right, right])
            self.assertEqual(row.bows(), bows)

    def test_kinds(self):
        self.assertEqual(show_kind(Kind([])), "-")
        self.assertEqual(show_kind(Kind(["within", "apart", "within"])), "apart,within")
        self.assertEqual(show_kind(Kind(WAYS)), "apart,begun,chained,crossing,ended,same,within")
        for kind in all_kinds():
            self.assertEqual(show_kind(kind), ",".join(sorted(kind.ways())) or "-")
        self.assertEqual(len({show_kind(kind) for kind in all_kinds()}), 128)

    def test_layers(self):
        long = 10 ** 40 - 1
        for layer, text in [([], "-"), ([0], "0"), ([0, 2, 10], "0,2,10"), ([3, 1, 3], "3,1,3"),
                            ([long, 0], "9" * 40 + ",0"), (list(range(50)), ",".join(map(str, range(50))))]:
            kept = list(layer)
            self.assertEqual(show_layer(layer), text)
            self.assertEqual(layer, kept)

    def test_layerings(self):
        for layers, text in [([], "-"), ([[0]], "0"), ([[0, 2], [1]], "0,2;1"), ([[4, 4], [0], [4]], "4,4;0;4"),
                             ([[10 ** 39], [7]], "1" + 39 * "0" + ";7")]:
            self.assertEqual(show_layering(layers), text)
        layers = [[5, 1], [3]]
        self.assertEqual(show_layering(layers), "5,1;3")
        self.assertEqual(layers, [[5, 1], [3]])

    def test_papers(self):
        right = [
            (("chains", []), "chains -"), (("levels", []), "levels -"), (("chains", ["before"]), "chains before"),
            (("levels", ["after", "starts"]), "levels after,starts"),
            (("chains", DIRECTIONS), "chains " + ",".join(DIRECTIONS)),
            (("ends", "kept"), "ends kept"), (("ends", "lacked"), "ends lacked"),
            (("ring", [(0, 1), (1, 3), (3, 4), (2, 3), (1, 2)]), "ring 0:1 1:3 3:4 2:3 1:2"),
            (("ring", [(-FAR, FAR)] * 5), "ring" + (" -1" + 30 * "0" + ":1" + 30 * "0") * 5),
        ]
        for thing, text in right:
            self.assertEqual(show_paper(thing), text)

    def test_papers_of_all_kinds(self):
        for kind in all_kinds():
            form, shown = paper_of(kind)
            if form == "ring":
                right = show_bows(shown)
            elif form == "ends":
                right = shown
            else:
                right = ",".join(shown) or "-"
            self.assertEqual(show_paper(paper_of(kind)), f"{form} {right}")

    def test_papers_of_all_directions(self):
        for some in subsets(DIRECTIONS)[::37]:
            for form in ("chains", "levels"):
                self.assertEqual(show_paper((form, some)), f"{form} {','.join(some) or '-'}")

    def test_texts_have_one_line(self):
        for row in short_rows():
            self.assertNotIn("\n", show_row(row))


class PictureTest(unittest.TestCase):
    def test_pictures_by_hand(self):
        right = [
            ([], ""), ([(0, 1)], "()\n"), ([(-FAR, FAR)], "()\n"), ([(0, 1)] * 3, "()\n" * 3),
            ([(0, 1), (2, 3)], "()..\n..()\n"), ([(0, 9), (4, 5)], "(--)\n.().\n"),
            ([(0, 1), (1, 2)], "().\n.()\n"), ([(5, 7), (-5, 6), (5, 6)], ".(-)\n(-).\n.().\n"),
        ]
        for bows, picture in right:
            self.assertEqual(show_picture(Row(bows)), picture)

    def test_each_sign(self):
        for row in short_rows() + forty_rows():
            lines = show_picture(row).split("\n")
            self.assertEqual(lines.pop(), "")
            self.assertEqual(len(lines), len(row))
            places = row.places()
            for line, (begin, end) in zip(lines, row):
                self.assertEqual(len(line), len(places))
                for sign, place in zip(line, places):
                    right = "(" if place == begin else ")" if place == end else "-" if begin < place < end else "."
                    self.assertEqual(sign, right)
            # The picture tells the plain row.
            told = Row([(line.index("("), line.index(")")) for line in lines])
            self.assertEqual(told, row.plain())
            self.assertEqual(show_picture(row.plain()), show_picture(row))

    def test_examples_of_the_document(self):
        told = Row([(0, 20), (10, 30), (20, 40)])
        self.assertEqual(show_picture(told), "(-)..\n.(-).\n..(-)\n")
        self.assertEqual(show_layering([[0, 2], [1]]), "0,2;1")
        self.assertEqual(show_paper(("ring", [(0, 1), (1, 3), (3, 4), (2, 3), (1, 2)])), "ring 0:1 1:3 3:4 2:3 1:2")


if __name__ == "__main__":
    unittest.main()
