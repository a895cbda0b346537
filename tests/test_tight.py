"""[5] to [11], [41]: tight kinds, papers, rings."""

import random
import unittest

from bowkinds.bows import way_of
from bowkinds.kinds import Kind, all_kinds
from bowkinds.layers import is_crowd, is_layer
from bowkinds.orders import orders_of
from bowkinds.rows import Row
from bowkinds.tight import is_paper, is_ring, is_tight, paper_of, ring_for, tight_kinds
from helpers import FAR, WAYS, fewest, greatest, odd_values, small_bows, subsets

DOC_RING = [(0, 1), (1, 3), (3, 4), (2, 3), (1, 2)]


def has_ring(kind):
    """Whether any five bows are a ring; ten places are enough for five bows."""
    bows = small_bows(10)
    beside = {one: {other for other in bows if other != one and way_of(one, other) in kind} for one in bows}
    for a in bows:
        for b in beside[a]:
            for c in beside[b] - beside[a] - {a}:
                for e in beside[a] - beside[b] - beside[c] - {b}:
                    if (beside[c] & beside[e]) - beside[a] - beside[b]:
                        return True
    return False


class TightTest(unittest.TestCase):
    def test_a_kind_is_tight_if_there_is_no_ring(self):
        for kind in all_kinds():
            if "same" not in kind:
                self.assertIs(is_tight(kind), not has_ring(kind), kind.ways())

    def test_same_changes_nothing(self):
        same = Kind(["same"])
        for kind in all_kinds():
            self.assertIs(is_tight(kind | same), is_tight(kind - same))
            self.assertEqual(ring_for(kind | same), ring_for(kind - same))

    def test_other_and_turned_kinds(self):
        for kind in all_kinds():
            self.assertIs(is_tight(~kind), is_tight(kind))
            self.assertIs(is_tight(kind.turned()), is_tight(kind))

    def test_tight_kinds(self):
        told = tight_kinds()
        self.assertEqual(told, [kind for kind in all_kinds() if is_tight(kind)])
        self.assertEqual(len(told), 56)
        self.assertEqual([told[0].ways(), told[-1].ways()], [[], WAYS])
        told.clear()
        self.assertEqual(len(tight_kinds()), 56)

    def test_a_kind_is_tight_if_a_paper_says_so(self):
        for kind in all_kinds():
            left = [way for way in kind if way != "same"]
            its = [way for way in ~kind if way != "same"]
            ends = ["begun", "ended"]
            said = orders_of(left) != [] or orders_of(its) != [] or left == ends or its == ends
            self.assertIs(is_tight(kind), said)

    def test_rows_by_tight_kinds(self):
        chance = random.Random(20)
        rows = [Row([]), Row([(0, 1)] * 5), Row(DOC_RING)]
        for _ in range(9):
            rows.append(Row([chance.choice(small_bows(6)) for _ in range(6)]))
        for kind in tight_kinds():
            for row in rows:
                layers = fewest(row, lambda some: is_layer(row, kind, some))
                self.assertEqual(layers, greatest(row, lambda some: is_crowd(row, kind, some)))
                crowds = fewest(row, lambda some: is_crowd(row, kind, some))
                self.assertEqual(crowds, greatest(row, lambda some: is_layer(row, kind, some)))


class RingTest(unittest.TestCase):
    def test_each_kind_has_one_or_is_tight(self):
        for kind in all_kinds():
            ring = ring_for(kind)
            self.assertIs(ring is None, is_tight(kind))
            if ring is not None:
                self.assertIs(is_ring(kind, ring), True)
                self.check_ring(kind, ring)

    def check_ring(self, kind, ring):
        self.assertIsInstance(ring, list)
        self.assertEqual(len(ring), 5)
        for i in range(5):
            beside = {(i + 1) % 5, (i - 1) % 5}
            let = {j for j in range(5) if j != i and way_of(ring[i], ring[j]) in kind}
            self.assertEqual(let, beside)
        row = Row(ring)
        self.assertEqual(fewest(row, lambda some: is_layer(row, kind, some)), 3)
        self.assertEqual(greatest(row, lambda some: is_crowd(row, kind, some)), 2)

    def test_rings_may_be_told_from_any_bow_either_way(self):
        for kind in all_kinds():
            ring = ring_for(kind)
            if ring is not None:
                for at in range(5):
                    self.assertIs(is_ring(kind, ring[at:] + ring[:at]), True)
                self.assertIs(is_ring(kind, ring[::-1]), True)
                self.assertIs(is_ring(~kind, ring), False)
                self.assertIs(is_ring(~kind, [ring[at] for at in (0, 2, 4, 1, 3)]), True)
                self.assertIs(is_ring(kind, [ring[at] for at in (1, 0, 2, 3, 4)]), False)

    def test_rings_hang_on_directions_alone(self):
        chained = Kind(["chained"])
        for row in (Row(DOC_RING).moved(-FAR), Row([(b ** 9 * 7 - FAR, e ** 9 * 7 - FAR) for b, e in DOC_RING])):
            self.assertIs(is_ring(chained, row.bows()), True)
        self.assertIs(is_ring(chained, Row(DOC_RING).turned().bows()), True)
        for kind in all_kinds():
            if not is_tight(kind):
                self.assertIs(is_ring(kind.turned(), Row(ring_for(kind)).turned().bows()), True)

    def test_wrong_values(self):
        kind = Kind(["chained"])
        wrong = [
            tuple(DOC_RING), DOC_RING[:4], DOC_RING + [(8, 9)], [], (), None, [list(bow) for bow in DOC_RING],
            DOC_RING[:4] + [(1, True)], DOC_RING[:4] + [None], DOC_RING[:4] + [(2, 1)], Row(DOC_RING),
            [(0, 1), (1, 2), (2, 3), (3, 4), (4, 5)], [(0, 1)] * 5, DOC_RING * 1000, [DOC_RING],
            DOC_RING[:4] + [(-FAR - 1, 1)], dict.fromkeys(DOC_RING), *odd_values(),
        ]
        for thing in wrong:
            self.assertIs(is_ring(kind, thing), False)
            self.assertIs(is_paper(kind, ("ring", thing)), False)
        for tight in tight_kinds():
            self.assertIs(is_ring(tight, DOC_RING), False)

    def test_what_is_told_is_new(self):
        kind = Kind(["chained"])
        told = ring_for(kind)
        kept = list(told)
        told.reverse()
        told.pop()
        paper_of(kind)[1].clear()
        self.assertEqual(ring_for(kind), kept)
        self.assertEqual(paper_of(kind), ("ring", kept))


class PaperTest(unittest.TestCase):
    def test_each_kind_has_a_paper(self):
        forms = {}
        for kind in all_kinds():
            paper = paper_of(kind)
            self.assertIs(is_paper(kind, paper), True)
            self.assertIsInstance(paper, tuple)
            self.assertIs(paper[0] == "ring", not is_tight(kind))
            forms[paper[0]] = forms.get(paper[0], 0) + 1
            self.assertEqual(paper_of(Kind(kind.ways()[::-1])), paper)
        self.assertEqual(forms["ring"], 72)
        self.assertEqual(sorted(forms), ["chains", "ends", "levels", "ring"])

    def test_just_the_right_papers(self):
        all_orders = []
        for ways in subsets(WAYS[:5] + WAYS[6:]):
            all_orders += orders_of(ways)
        papers = [("ends", "kept"), ("ends", "lacked")]
        papers += [(form, order) for form in ("chains", "levels") for order in all_orders]
        for kind in all_kinds():
            right = [("chains", order) for order in orders_of(kind.ways())]
            right += [("levels", order) for order in orders_of((~kind).ways())]
            if (kind - Kind(["same"])).ways() == ["begun", "ended"]:
                right.append(("ends", "kept"))
            if (~kind - Kind(["same"])).ways() == ["begun", "ended"]:
                right.append(("ends", "lacked"))
            for paper in papers:
                self.assertIs(is_paper(kind, paper), paper in right)

    def test_the_kinds_of_no_way_and_of_all(self):
        for kind in (Kind([]), Kind(["same"])):
            self.assertIs(is_paper(kind, ("chains", [])), True)
            self.assertIs(is_paper(kind, ("levels", [])), False)
            self.assertIs(is_paper(~kind, ("levels", [])), True)
            self.assertIs(is_paper(~kind, ("chains", [])), False)
            for thing in odd_values():
                self.assertIs(is_paper(kind, ("chains", thing)), False)
                self.assertIs(is_paper(~kind, ("levels", thing)), False)

    def test_wrong_values(self):
        kind = Kind(["begun", "ended"])
        wrong = [
            ["ends", "kept"], ("ends",), ("ends", "kept", "kept"), ("kept", "ends"), ("ends", "Kept"), (), "ends",
            ("ends", "lacked"), ("ends", None), ("ends", True), ("ends", ["kept"]), (["ends"], "kept"), ("", "kept"),
            (None, "kept"), (True, False), ("ends", {}), (("ends", "kept"),), [("ends", "kept")], {"ends": "kept"},
            ("chains", []), ("levels", []), ("chain", []), ("ring", []), ("chains", ["starts", "finishes"]),
            *odd_values(),
        ]
        self.assertIs(is_paper(kind, ("ends", "kept")), True)
        for thing in wrong:
            self.assertIs(is_paper(kind, thing), False)
        for thing in odd_values():
            for form in ("ends", "chains", "levels", "ring"):
                self.assertIs(is_paper(kind, (form, thing)), False)
            self.assertIs(is_paper(kind, (thing, "kept")), False)

    def test_what_is_told_is_new(self):
        for kind in (Kind(["apart"]), ~Kind(["apart"])):
            paper = paper_of(kind)
            told = (paper[0], list(paper[1]))
            paper[1].append("x")
            self.assertEqual(paper_of(kind), told)

    def test_examples_of_the_document(self):
        told = [is_tight(Kind(["apart"])), is_tight(Kind(["chained"])),
                is_paper(Kind(["begun", "ended"]), ("ends", "kept")), len(tight_kinds())]
        self.assertEqual(told, [True, False, True, 56])
        self.assertIs(is_ring(Kind(["chained"]), DOC_RING), True)
        ring = [(0, 3), (4, 7), (1, 8), (2, 5), (6, 9)]
        self.assertIs(is_paper(~Kind(["crossing"]), ("ring", ring)), True)


if __name__ == "__main__":
    unittest.main()
