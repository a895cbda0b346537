"""[2] to [4], [103]: books of a row and a kind."""

import random
import unittest

from bowkinds.book import Book
from bowkinds.errors import BadEdit, BowError, NoBow, Nothing, Wrong
from bowkinds.kinds import Kind
from bowkinds.rows import Row
from helpers import FAR, WAYS, edge_rows, odd_values, small_bows

ROW, KIND = Row([(0, 2), (1, 3), (2, 4)]), Kind(["apart", "begun"])
# One edit of each sort, also such as change nothing.
EDITS = [
    ("put", (-FAR, FAR)), ("out", 0), ("bow", 1, (5, 6)), ("row", ((0, 1), (0, 1), (4, 7))), ("row", ()),
    ("let", "same"), ("let", "apart"), ("bar", "begun"), ("bar", "within"), ("turn",), ("bow", 0, (0, 2)),
]
NO_EDITS = [
    (), ("put",), ("put", (1, 0)), ("put", [0, 1]), ("put", (0, 1), (0, 1)), ("put", 0), ("put", (0, True)),
    ("put", (0, FAR + 1)), ("out",), ("out", True), ("out", "0"), ("out", None), ("out", 0, 0), ("out", (0, 1)),
    ("bow", 0), ("bow", (0, 1), 0), ("bow", False, (0, 1)), ("bow", 0, (0, 1), 0), ("bow", 0, (1, 1)), ("bow", 9, (2,
                                                                                                                   1)),
    ("bow", 0, [0, 1]), ("row",), ("row", (0, 1)), ("row", [(0, 1), (1, 0)]), ("row", ROW), ("row", None),
    ("row", {(0, 1): 0}), ("row", [], []), ("row", ((0, 1), [2, 3])), ("let",), ("let", "Apart"), ("let", "before"),
    ("let", ["apart"]), ("let", KIND), ("let", "apart", "begun"), ("bar",), ("bar", ""), ("bar", 1), ("bar", "after"),
    ("turn", 0), ("turn", ()), ("turned",), ("Turn",), ("back",), ("again",), ("",), (0,), (None,), (("turn",),), ([],),
    (["turn"],), ({},), ["turn"], ["put", (0, 1)], "turn", "put", ("put", (0, 1))[:1] + ((0,),), {"turn": ()},
]


def after(row, kind, edit):
    """The row and the kind behind an edit, by the document's words."""
    bows, ways = row.bows(), kind.ways()
    word = edit[0]
    if word == "put":
        bows.append(edit[1])
    elif word == "out":
        del bows[edit[1]]
    elif word == "bow":
        bows[edit[1]] = edit[2]
    elif word == "row":
        bows = list(edit[1])
    elif word == "let":
        ways = [*ways, edit[1]]
    elif word == "bar":
        ways = [way for way in ways if way != edit[1]]
    else:
        bows = [(-end, -begin) for begin, end in bows]
        ways = [{"begun": "ended", "ended": "begun"}.get(way, way) for way in ways]
    return Row(bows), Kind(ways)


class Model:
    """A book that is told by its first row and kind, what stands and what was undone."""

    def __init__(self, row, kind):
        self.first, self.stands, self.undone = (row, kind), [], []

    def now(self):
        row, kind = self.first
        for edit in self.stands:
            row, kind = after(row, kind, edit)
        return row, kind


class BookCase(unittest.TestCase):
    def fails(self, error, call, *given):
        with self.assertRaises(BowError) as caught:
            call(*given)
        self.assertIs(caught.exception.__class__, error)
        return caught.exception

    def check(self, book, row, kind, log):
        self.assertIsInstance(book.row, Row)
        self.assertIsInstance(book.kind, Kind)
        self.assertEqual([book.row, book.kind], [row, kind])
        self.assertEqual([book.log(), list(book), [*iter(book)]], [log] * 3)
        self.assertEqual(repr(len(book)), repr(len(log)))


class MakingTest(BookCase):
    def test_new_books(self):
        for row in edge_rows() + [Row(small_bows(20))]:
            for kind in (Kind([]), KIND, Kind(WAYS)):
                self.check(Book(row, kind), row, kind, [])
                self.check(Book(kind=kind, row=row), row, kind, [])

    def test_wrong_arguments(self):
        odd = odd_values() + [[(0, 1)], ((0, 1),), ["apart"], Book(ROW, KIND)]
        for thing in odd:
            if not isinstance(thing, Row):
                self.assertEqual(self.fails(Wrong, Book, thing, KIND).place, 0)
                self.assertEqual(self.fails(Wrong, Book, thing, thing).place, 0)
                self.assertEqual(self.fails(Wrong, lambda: Book(kind=None, row=thing)).place, 0)
            if not isinstance(thing, Kind):
                self.assertEqual(self.fails(Wrong, Book, ROW, thing).place, 1)
                self.assertEqual(self.fails(Wrong, lambda: Book(kind=thing, row=ROW)).place, 1)
        self.assertEqual(self.fails(Wrong, Book, KIND, ROW).place, 0)


class EditsTest(BookCase):
    def test_each_edit(self):
        for edit in EDITS:
            book = Book(ROW, KIND)
            self.assertIsNone(book.do(edit))
            self.check(book, *after(ROW, KIND, edit), [edit])
            self.assertEqual(book.back(), edit)
            self.check(book, ROW, KIND, [])
            self.assertEqual(book.again(), edit)
            self.check(book, *after(ROW, KIND, edit), [edit])

    def test_by_hand(self):
        book = Book(ROW, KIND)
        for edit in [("put", (7, 9)), ("out", 1), ("bow", 0, (0, 5)), ("turn",), ("let", "chained"), ("bar", "apart")]:
            book.do(edit)
        self.assertEqual(book.row.bows(), [(-5, 0), (-4, -2), (-9, -7)])
        self.assertEqual(book.kind.ways(), ["chained", "ended"])
        book.do(("row", [(0, 1)]))
        self.assertEqual([book.row.bows(), book.kind.ways(), len(book)], [[(0, 1)], ["chained", "ended"], 7])

    def test_bows_of_a_row_are_told_as_a_tuple(self):
        for bows in ([(0, 1), (4, 9)], ((0, 1), (4, 9)), [], ()):
            book = Book(ROW, KIND)
            book.do(("row", bows))
            right = ("row", tuple(bows))
            self.assertEqual([book.log(), book.row.bows()], [[right], list(bows)])
            for told in (book.log()[0], list(book)[0], book.back(), book.again()):
                self.assertEqual(repr(told), repr(right))

    def test_what_is_handed_in_may_change(self):
        bows = [(0, 1), (4, 9)]
        edit = ("row", bows)
        book = Book(ROW, KIND)
        book.do(edit)
        bows.clear()
        bows.append(("spoilt",))
        self.check(book, Row([(0, 1), (4, 9)]), KIND, [("row", ((0, 1), (4, 9)))])
        self.assertEqual(edit, ("row", [("spoilt",)]))
        book.back()
        book.again()
        self.assertEqual(book.row.bows(), [(0, 1), (4, 9)])

    def test_arguments_stay(self):
        row, kind = Row(ROW.bows()), Kind(KIND.ways())
        book = Book(row, kind)
        for edit in EDITS:
            if edit[0] not in ("out", "bow") or edit[1] < len(book.row):
                book.do(edit)
        self.assertEqual([row, kind], [ROW, KIND])

    def test_no_edits(self):
        book = Book(ROW, KIND)
        book.do(("put", (7, 8)))
        book.do(("turn",))
        book.back()
        for thing in NO_EDITS + odd_values():
            self.fails(BadEdit, book.do, thing)
            self.check(book, ROW.put((7, 8)), KIND, [("put", (7, 8))])
        # What can be done again stays, too.
        self.assertEqual(book.again(), ("turn",))

    def test_odd_parts(self):
        book = Book(ROW, KIND)
        for thing in odd_values() + [[], [(0, 1)]]:
            for edit in [("put", thing), ("out", thing), ("bow", 0, thing), ("bow", thing, (0, 1)), ("let", thing),
                         ("bar", thing), (thing,), ("turn", thing), (thing, (0, 1))]:
                self.fails(BadEdit, book.do, edit)
            if thing not in ([], [(0, 1)], ()):
                self.fails(BadEdit, book.do, ("row", thing))
        self.check(book, ROW, KIND, [])

    def test_no_bow(self):
        book = Book(ROW, KIND)
        book.do(("let", "same"))
        book.back()
        for index in (3, 4, -1, -3, 10 ** 40, -10 ** 40):
            for edit in (("out", index), ("bow", index, (0, 1))):
                self.assertEqual(repr(self.fails(NoBow, book.do, edit).index), repr(index))
                self.check(book, ROW, KIND, [])
            self.fails(BadEdit, book.do, ("bow", index, (1, 0)))
            self.fails(BadEdit, book.do, ("out", index, index))
        self.assertEqual(book.again(), ("let", "same"))
        empty = Book(Row([]), KIND)
        self.assertEqual(self.fails(NoBow, empty.do, ("out", 0)).index, 0)
        self.assertEqual(self.fails(NoBow, empty.do, ("bow", 0, (0, 1))).index, 0)

    def test_long_rows(self):
        book = Book(Row([]), KIND)
        bows = small_bows(12)
        for bow in bows:
            book.do(("put", bow))
        self.assertEqual([book.row.bows(), len(book)], [bows, 66])
        for _ in bows:
            book.do(("out", 0))
        self.assertEqual([book.row.bows(), len(book)], [[], 132])
        for _ in range(66):
            book.back()
        self.assertEqual([book.row.bows(), len(book)], [bows, 66])


class BackTest(BookCase):
    def test_nothing_at_both_ends(self):
        book = Book(ROW, KIND)
        for _ in range(2):
            self.fails(Nothing, book.back)
            self.fails(Nothing, book.again)
            self.check(book, ROW, KIND, [])
        book.do(("turn",))
        self.fails(Nothing, book.again)
        book.back()
        self.fails(Nothing, book.back)
        self.assertEqual(book.again(), ("turn",))
        self.fails(Nothing, book.again)
        self.check(book, ROW.turned(), KIND.turned(), [("turn",)])

    def test_a_new_edit_ends_what_can_be_done_again(self):
        book = Book(ROW, KIND)
        for edit in (("put", (7, 8)), ("out", 0), ("let", "same")):
            book.do(edit)
        book.back()
        book.back()
        book.do(("let", "apart"))
        self.fails(Nothing, book.again)
        self.check(book, ROW.put((7, 8)), KIND, [("put", (7, 8)), ("let", "apart")])
        self.assertEqual([book.back(), book.back()], [("let", "apart"), ("put", (7, 8))])
        self.assertEqual([book.again(), book.again()], [("put", (7, 8)), ("let", "apart")])

    def test_a_way_that_was_let_before_stays_when_undone(self):
        book = Book(ROW, KIND)
        book.do(("let", "apart"))
        book.do(("bar", "same"))
        book.back()
        book.back()
        self.assertEqual(book.kind, KIND)
        book.do(("turn",))
        book.do(("turn",))
        self.check(book, ROW, KIND, [("turn",), ("turn",)])

    def test_beside_a_model(self):
        for seed in range(25):
            chance = random.Random(seed)
            book, model = Book(ROW, KIND), Model(ROW, KIND)
            copies = []
            for _ in range(60):
                choice = chance.randrange(10)
                if choice < 2:
                    if model.stands:
                        model.undone.append(model.stands.pop())
                        self.assertEqual(book.back(), model.undone[-1])
                    else:
                        self.fails(Nothing, book.back)
                elif choice < 4:
                    if model.undone:
                        model.stands.append(model.undone.pop())
                        self.assertEqual(book.again(), model.stands[-1])
                    else:
                        self.fails(Nothing, book.again)
                else:
                    edit = chance.choice(EDITS)
                    if edit[0] in ("out", "bow") and edit[1] >= len(model.now()[0]):
                        self.assertEqual(self.fails(NoBow, book.do, edit).index, edit[1])
                    else:
                        book.do(edit)
                        model.stands.append(edit)
                        model.undone.clear()
                if chance.randrange(20) == 0:
                    copies.append((book.copied(), list(model.stands), list(model.undone), model.now()))
                self.check(book, *model.now(), model.stands)
            for copy, stands, undone, (row, kind) in copies:
                self.check(copy, row, kind, stands)
                self.assertEqual([copy.again() for _ in undone], undone[::-1])
                self.fails(Nothing, copy.again)


class CopiesTest(BookCase):
    def test_copies_go_on_by_themselves(self):
        book = Book(ROW, KIND)
        book.do(("put", (7, 8)))
        book.do(("turn",))
        book.back()
        copy = book.copied()
        self.assertIsInstance(copy, Book)
        self.assertIsNot(copy, book)
        self.assertEqual(copy, book)
        self.assertEqual(copy.again(), ("turn",))
        self.check(book, ROW.put((7, 8)), KIND, [("put", (7, 8))])
        copy.do(("row", []))
        self.assertEqual(book.again(), ("turn",))
        self.check(book, ROW.put((7, 8)).turned(), KIND.turned(), [("put", (7, 8)), ("turn",)])
        self.check(copy, Row([]), KIND.turned(), [("put", (7, 8)), ("turn",), ("row", ())])
        book.back()
        book.back()
        self.fails(Nothing, book.back)
        self.assertEqual(len(copy), 3)
        self.assertEqual([copy.back(), copy.back(), copy.back()], [("row", ()), ("turn",), ("put", (7, 8))])
        self.fails(Nothing, copy.back)
        self.check(copy, ROW, KIND, [])

    def test_equal_books(self):
        one, other = Book(ROW, KIND), Book(Row(ROW.bows()), Kind(KIND.ways()))
        self.assertTrue(one == other)
        one.do(("let", "apart"))
        # It is the log that is unlike, not the row or the kind.
        self.assertFalse(one == other)
        other.do(("let", "apart"))
        self.assertTrue(one == other)
        one.do(("turn",))
        one.back()
        # What can be done again does not count.
        self.assertTrue(one == other)
        self.assertFalse(one == Book(ROW, KIND | Kind(["same"])))
        self.assertFalse(Book(ROW, KIND) == Book(ROW, ~KIND))
        self.assertFalse(Book(ROW, KIND) == Book(ROW.put((0, 1)), KIND))

    def test_first_rows_and_kinds_count(self):
        one, other = Book(ROW, KIND), Book(Row([]), KIND)
        for book in (one, other):
            book.do(("row", [(0, 1)]))
        self.assertEqual(one.row, other.row)
        self.assertFalse(one == other)
        one, other = Book(ROW, KIND), Book(ROW, KIND | Kind(["same"]))
        for book in (one, other):
            book.do(("let", "same"))
        self.assertEqual(one.kind, other.kind)
        self.assertFalse(one == other)

    def test_turned_books(self):
        begun, ended = Kind(["begun"]), Kind(["ended"])
        for one in (Book(ROW, begun), Book(ROW.turned(), begun), Book(ROW, ended), Book(ROW.turned(), ended)):
            for other in (Book(ROW, begun), Book(ROW.turned(), begun), Book(ROW, ended), Book(ROW.turned(), ended)):
                right = [one.row, one.kind] == [other.row, other.kind]
                self.assertIs(one == other, right)
                for book in (one, other):
                    book.do(("turn",))
                self.assertIs(one == other, right)
                one.back()
                self.assertIs(one == other, False)

    def test_lists_and_tuples_of_bows_are_equal(self):
        one, other = Book(ROW, KIND), Book(ROW, KIND)
        one.do(("row", [(0, 1)]))
        other.do(("row", ((0, 1),)))
        self.assertTrue(one == other)

    def test_equal_to_nothing_else(self):
        book = Book(ROW, KIND)
        for thing in [ROW, KIND, [], (), (ROW, KIND), book.log(), *odd_values()]:
            self.assertFalse(book == thing)
            self.assertFalse(thing == book)
            self.assertTrue(book != thing)

    def test_what_is_told_is_new(self):
        book = Book(ROW, KIND)
        book.do(("put", (7, 8)))
        book.do(("row", [(0, 1)]))
        for _ in range(2):
            told = book.log()
            told.reverse()
            told.append("spoilt")
            book.row.bows().clear()
            book.kind.ways().clear()
            self.check(book, Row([(0, 1)]), KIND, [("put", (7, 8)), ("row", ((0, 1),))])
        self.assertIsNot(book.row, book.row)
        self.assertIsNot(book.kind, book.kind)
        self.assertIsNot(book.log(), book.log())

    def test_a_book_may_be_edited_while_it_is_gone_through(self):
        book = Book(ROW, KIND)
        book.do(("turn",))
        book.do(("let", "same"))
        seen = []
        for edit in book:
            seen.append(edit)
            book.back()
        self.assertEqual(seen, [("turn",), ("let", "same")])
        self.check(book, ROW, KIND, [])

    def test_properties_are_not_assigned(self):
        book = Book(ROW, KIND)
        with self.assertRaises(AttributeError):
            book.row = Row([])
        with self.assertRaises(AttributeError):
            book.kind = Kind([])
        self.check(book, ROW, KIND, [])


if __name__ == "__main__":
    unittest.main()
