"""[3], [4], [100], [104]: a desk, which does what lines say."""

import random
import unittest

from bowkinds.book import Book
from bowkinds.bows import direction_of, way_of
from bowkinds.desk import Desk
from bowkinds.errors import BowError, NoBow, NoCommand, Nothing, NotTight, Wrong
from bowkinds.fewest import crowd_of, fewest_layers, layering_of
from bowkinds.kinds import Kind, all_kinds
from bowkinds.layers import is_crowd, is_layering
from bowkinds.notation import show_kind, show_layer, show_layering, show_paper, show_picture, show_row
from bowkinds.readers import read_kind, read_layering, read_paper, read_row
from bowkinds.rounds import is_round, round_of, two_layers
from bowkinds.rows import Row
from bowkinds.tight import is_paper, is_tight, paper_of
from helpers import FAR, WAYS, edge_rows, forty_rows, odd_values, short_rows, small_bows

TOLD, FREE, CHAIN = Row([(0, 20), (10, 30), (20, 40)]), Kind(["apart"]), Kind(["chained"])
RING = Row([(0, 1), (1, 3), (3, 4), (2, 3), (1, 2)])
ALONE = ["turn", "back", "again", "row", "kind", "plain", "picture", "tight", "paper", "fewest", "layers", "crowd",
         "two"]
RIGHT = [*ALONE, "put 5:6", "out 0", "bow 0 5:6", "let same", "bar apart", "way 0 1", "direction 0 1", "together 0 0"]


class DeskCase(unittest.TestCase):
    def fails(self, error, call, *given):
        with self.assertRaises(BowError) as caught:
            call(*given)
        self.assertIs(caught.exception.__class__, error, given)
        return caught.exception

    def tells(self, desk, lines):
        told = [desk.execute(line) for line in lines]
        self.assertTrue(all(isinstance(text, str) for text in told))
        return told


class MakingTest(DeskCase):
    def test_new_desks(self):
        for row in edge_rows() + [Row(small_bows(12))]:
            for kind in (Kind([]), FREE, Kind(WAYS)):
                desk = Desk(row, kind)
                self.assertEqual(desk.book(), Book(row, kind))
                told = self.tells(Desk(kind=kind, row=row), ["row", "kind"])
                self.assertEqual(told, [show_row(row), show_kind(kind)])

    def test_wrong_arguments(self):
        for thing in odd_values() + [[(0, 1)], ((0, 1),), ["apart"], Book(TOLD, FREE), Desk(TOLD, FREE)]:
            if not isinstance(thing, Row):
                self.assertEqual(self.fails(Wrong, Desk, thing, FREE).place, 0)
                self.assertEqual(self.fails(Wrong, Desk, thing, thing).place, 0)
                self.assertEqual(self.fails(Wrong, lambda: Desk(kind=None, row=thing)).place, 0)
            if not isinstance(thing, Kind):
                self.assertEqual(self.fails(Wrong, Desk, TOLD, thing).place, 1)
                self.assertEqual(self.fails(Wrong, lambda: Desk(kind=thing, row=TOLD)).place, 1)


class EditsTest(DeskCase):
    def test_by_hand(self):
        desk = Desk(TOLD, FREE)
        lines = ["put 5:15", "put -7:-3", "out 0", "bow 1 0:9", "let within", "bar apart", "let within", "bar same",
                 "turn"]
        self.assertEqual(self.tells(desk, lines), ["4", "5", "4", "4", "4", "4", "4", "4", "4"])
        self.assertEqual(self.tells(desk, ["row", "kind"]), ["-30:-10 -9:0 -15:-5 3:7", "within"])
        self.assertEqual(self.tells(desk, ["back"] * 9), lines[::-1])
        self.assertEqual(self.tells(desk, ["row", "kind"]), ["0:20 10:30 20:40", "apart"])
        self.fails(Nothing, desk.execute, "back")
        self.assertEqual(self.tells(desk, ["again"] * 9), lines)
        self.fails(Nothing, desk.execute, "again")
        self.assertEqual(self.tells(desk, ["row", "kind"]), ["-30:-10 -9:0 -15:-5 3:7", "within"])

    def test_they_are_the_edits_of_a_book(self):
        edits = {
            "put -5:6": ("put", (-5, 6)), "out 1": ("out", 1), "bow 2 0:1": ("bow", 2, (0, 1)),
            "let ended": ("let", "ended"), "bar apart": ("bar", "apart"), "turn": ("turn",),
            f"put {-FAR}:{FAR}": ("put", (-FAR, FAR)),
        }
        for line, edit in edits.items():
            desk, book = Desk(TOLD, FREE), Book(TOLD, FREE)
            book.do(edit)
            self.assertEqual(desk.execute(line), str(len(book.row)))
            self.assertEqual(desk.book(), book)
            self.assertEqual([desk.book().row, desk.book().kind], [book.row, book.kind])
            self.assertEqual(self.tells(desk, ["back", "again"]), [line, line])
            self.assertEqual(desk.book(), book)

    def test_the_last_bow_goes(self):
        desk = Desk(Row([(0, 1)]), FREE)
        self.assertEqual(self.tells(desk, ["out 0", "row", "picture", "plain", "fewest", "layers", "crowd", "two",
                                           "turn"]),
                         ["0", "-", "", "-", "0", "-", "-", "-", "0"])
        self.assertEqual(self.fails(NoBow, desk.execute, "out 0").index, 0)

    def test_no_bow_changes_nothing(self):
        desk = Desk(TOLD, FREE)
        self.tells(desk, ["put 5:6", "turn", "back"])
        for index in (4, 5, 10 ** 39, 10 ** 40 - 1):
            for line in (f"out {index}", f"bow {index} 0:1"):
                self.assertEqual(repr(self.fails(NoBow, desk.execute, line).index), repr(index))
        self.assertEqual(desk.book().log(), [("put", (5, 6))])
        self.assertEqual(self.tells(desk, ["row", "again"]), ["0:20 10:30 20:40 5:6", "turn"])

    def test_a_new_edit_ends_what_can_be_done_again(self):
        desk = Desk(TOLD, FREE)
        self.tells(desk, ["turn", "back", "let apart"])
        self.fails(Nothing, desk.execute, "again")
        self.assertEqual(desk.book().log(), [("let", "apart")])

    def test_questions_change_nothing(self):
        desk = Desk(TOLD, FREE)
        self.tells(desk, ["put 5:6", "turn", "back"])
        before = desk.book()
        for _ in range(2):
            self.tells(desk, [line for line in ALONE[3:]] + ["way 0 1", "direction 0 3", "together 1 1"])
            self.assertEqual(desk.book(), before)
        self.assertEqual(desk.execute("again"), "turn")


class QuestionsTest(DeskCase):
    def test_all_kinds(self):
        for row in [Row([]), TOLD, RING, Row([(3, 9)] * 3)] + short_rows()[-3:]:
            for kind in all_kinds():
                desk = Desk(row, kind)
                self.assertEqual(desk.execute("kind"), show_kind(kind))
                self.assertEqual(desk.execute("tight"), "yes" if is_tight(kind) else "no")
                self.assertEqual(desk.execute("paper"), show_paper(paper_of(kind)))
                self.assertIs(is_paper(kind, read_paper(desk.execute("paper"))), True)
                for line in ("fewest", "layers", "crowd"):
                    if not is_tight(kind):
                        self.fails(NotTight, desk.execute, line)
                if is_tight(kind):
                    self.assertEqual(desk.execute("fewest"), str(fewest_layers(row, kind)))
                    self.assertEqual(desk.execute("layers"), show_layering(layering_of(row, kind)))
                    self.assertEqual(desk.execute("crowd"), show_layer(crowd_of(row, kind)))
                    layers = read_layering(desk.execute("layers"))
                    self.assertIs(is_layering(row, kind, layers), True)
                    crowd = [index for layer in read_layering(desk.execute("crowd")) for index in layer]
                    self.assertIs(is_crowd(row, kind, crowd), True)
                    self.assertEqual([len(layers), len(crowd)], [int(desk.execute("fewest"))] * 2)
                two = desk.execute("two")
                if two_layers(row, kind) is None:
                    self.assertEqual(two, "round " + show_layer(round_of(row, kind)))
                    self.assertIs(is_round(row, kind, read_layering(two[6:])[0]), True)
                else:
                    self.assertEqual(two, show_layering(two_layers(row, kind)))
                    self.assertIs(is_layering(row, kind, read_layering(two)), True)

    def test_texts_of_rows(self):
        for row in edge_rows() + short_rows() + [Row(small_bows(15))]:
            desk = Desk(row, CHAIN)
            self.assertEqual(self.tells(desk, ["row", "plain", "picture"]),
                             [show_row(row), show_row(row.plain()), show_picture(row)])
            self.assertEqual(read_row(desk.execute("row")), row)
            self.assertEqual(read_row(desk.execute("plain")), row.plain())
            self.assertEqual(read_kind(desk.execute("kind")), CHAIN)

    def test_forty_bows(self):
        for row in forty_rows()[:3]:
            for kind in (FREE, ~FREE, Kind(["begun", "ended"]), ~Kind(["crossing"])):
                desk = Desk(row, kind)
                if is_tight(kind):
                    self.assertEqual(desk.execute("fewest"), str(fewest_layers(row, kind)))
                self.assertEqual(desk.execute("two").startswith("round "), two_layers(row, kind) is None)

    def test_two_bows(self):
        row = RING.put((0, 1)).put((-9, 20))
        for kind in (FREE, CHAIN, Kind(["same"]), ~Kind(["same"]), Kind(WAYS), Kind([])):
            desk = Desk(row, kind)
            for i in range(7):
                for j in range(7):
                    told = self.tells(desk, [f"way {i} {j}", f"direction {i} {j}", f"together {i} {j}"])
                    right = "yes" if way_of(row[i], row[j]) in kind.ways() else "no"
                    self.assertEqual(told, [way_of(row[i], row[j]), direction_of(row[i], row[j]), right])

    def test_no_bow(self):
        desk = Desk(TOLD, FREE)
        self.tells(desk, ["turn", "back"])
        far = 10 ** 40 - 1
        for word in ("way", "direction", "together"):
            for i, j, index in [(0, 3, 3), (3, 0, 3), (3, 4, 3), (4, 3, 4), (9, 9, 9), (far, 5, far), (1, far, far)]:
                self.assertEqual(repr(self.fails(NoBow, desk.execute, f"{word} {i} {j}").index), repr(index))
            self.assertEqual(self.fails(NoBow, Desk(Row([]), FREE).execute, f"{word} 0 0").index, 0)
        self.assertEqual(desk.execute("again"), "turn")

    def test_answers_are_those_now(self):
        desk = Desk(TOLD, FREE)
        self.assertEqual(self.tells(desk, ["tight", "bar apart", "let chained", "tight", "two", "put 0:10",
                                           "put 0:40"]),
                         ["yes", "3", "3", "no", "0,2;1", "4", "5"])
        self.fails(NotTight, desk.execute, "fewest")
        self.assertEqual(self.tells(desk, ["let begun", "bar chained", "paper"]), ["5", "5", "chains started"])


class NoCommandTest(DeskCase):
    def stays(self, desk, line):
        before = desk.book()
        self.fails(NoCommand, desk.execute, line)
        self.assertEqual(desk.book(), before)
        self.assertEqual(desk.execute("again"), "turn")
        desk.execute("back")

    def desk(self):
        desk = Desk(TOLD, FREE)
        self.tells(desk, ["put 5:6", "turn", "back"])
        return desk

    def test_any_values(self):
        desk = self.desk()
        for thing in odd_values() + [["row"], ("row",), b"row", {"row": 0}, 0, ("put", (0, 1)), Row([(0, 1)])]:
            self.stays(desk, thing)

    def test_blanks_and_lines(self):
        for line in RIGHT:
            desk = self.desk()
            for wrong in (" " + line, line + " ", line + "\n", "\n" + line, line + " 0 0 0", line.upper(), line + "x",
                          "x" + line, line.replace(" ", "  "), line.replace(" ", "\n"), line + "\nrow", line[:-1],
                          line.replace(" ", ""), line.replace(" ", ","), "(" + line + ")"):
                if wrong != line:
                    self.stays(desk, wrong)

    def test_wrong_bows(self):
        desk = self.desk()
        for bow in ("", "1:0", "0:0", "01:2", "-0:1", "0:1:2", "0,1", "(0, 1)", "0", "-", "+0:1", f"0:{FAR + 1}",
                    f"{-FAR - 1}:0", "a:b", "0:1 0:1", "0: 1", "0:" + "1" * 41):
            self.stays(desk, f"put {bow}")
            self.stays(desk, f"bow 0 {bow}")
            # What is no command is told ahead of a bow that is not there.
            self.stays(desk, f"bow 9 {bow}")

    def test_wrong_numbers(self):
        desk = self.desk()
        for number in ("", "-1", "-0", "+1", "00", "01", "1.0", "x", "0x1", "1_0", "True", "-", "1" * 41, "0" * 40,
                       "0:1"):
            for line in (f"out {number}", f"bow {number} 0:1", f"way {number} 0", f"way 0 {number}", f"way 9 {number}",
                         f"direction {number} 0", f"direction 0 {number}", f"together {number} {number}"):
                self.stays(desk, line)

    def test_wrong_ways(self):
        desk = self.desk()
        for way in ("", "Apart", "before", "meets", "apart,begun", "apart begun", "-", "0", "all", "apart "):
            self.stays(desk, f"let {way}")
            self.stays(desk, f"bar {way}")

    def test_too_few_and_too_many(self):
        desk = self.desk()
        for line in ("put", "out", "bow", "bow 0", "bow 0:1", "bow 0:1 0", "let", "bar", "way", "way 0", "way 0 1 2",
                     "direction 0", "together 1", "turn 0", "back 1", "again 1", "row 0:1", "row 0:1 2:3", "kind apart",
                     "plain -", "two 0", "fewest 3", "out 0 0", "put 0:1 2:3", "let apart begun", "log", "do", "book",
                     "copied", "help", "", " ", "\n", "x" * 10000):
            self.stays(desk, line)


class BookTest(DeskCase):
    def test_a_copy_of_the_book(self):
        desk = Desk(TOLD, FREE)
        self.tells(desk, ["put 5:6", "turn", "back"])
        book = desk.book()
        self.assertIsInstance(book, Book)
        self.assertIsNot(desk.book(), desk.book())
        self.assertEqual(book.again(), ("turn",))
        book.do(("row", []))
        self.assertEqual(self.tells(desk, ["row", "again", "out 0"]), ["0:20 10:30 20:40 5:6", "turn", "3"])
        self.assertEqual([len(book), len(desk.book())], [3, 3])
        self.assertEqual(book.row, Row([]))
        self.assertEqual(desk.book().log(), [("put", (5, 6)), ("turn",), ("out", 0)])

    def test_rows_of_edits_come_in_no_line(self):
        desk = Desk(TOLD, FREE)
        self.fails(NoCommand, desk.execute, "row 0:1")
        self.assertEqual(self.tells(desk, ["row"]), ["0:20 10:30 20:40"])
        self.assertEqual(len(desk.book()), 0)

    def test_beside_a_book(self):
        chance = random.Random(91)
        for _ in range(15):
            desk, book = Desk(TOLD, FREE), Book(TOLD, FREE)
            for _ in range(40):
                bow = chance.choice(small_bows(9))
                index = chance.randrange(5)
                way = chance.choice(WAYS)
                lines = {
                    f"put {bow[0]}:{bow[1]}": ("put", bow), f"out {index}": ("out", index), f"let {way}": ("let", way),
                    f"bow {index} {bow[0]}:{bow[1]}": ("bow", index, bow), f"bar {way}": ("bar", way),
                    "turn": ("turn",),
                    "back": None, "again": None,
                }
                line = chance.choice(sorted(lines))
                try:
                    if lines[line]:
                        right = book.do(lines[line]) or str(len(book.row))
                    else:
                        edit = book.back() if line == "back" else book.again()
                        right = {edit: line for line, edit in lines.items()}.get(edit)
                except (NoBow, Nothing) as error:
                    self.assertEqual(vars(self.fails(error.__class__, desk.execute, line)), vars(error))
                else:
                    told = desk.execute(line)
                    if right is not None:
                        self.assertEqual(told, right)
                self.assertEqual(desk.book(), book)
                told = [read_row(desk.execute("row")), read_kind(desk.execute("kind"))]
                self.assertEqual(told, [book.row, book.kind])

    def test_examples_of_the_document(self):
        desk = Desk(TOLD, FREE)
        lines = ("fewest", "let chained", "fewest", "layers", "way 0 2", "put 5:15", "back", "together 0 2")
        self.assertEqual(self.tells(desk, lines), ["3", "3", "2", "0,2;1", "chained", "4", "put 5:15", "yes"])


if __name__ == "__main__":
    unittest.main()
