"""[1] to [12]: what is promised over the whole program, and all examples of the document."""

import doctest
import importlib
import inspect
import os
import unittest

from bowkinds import (bows, chains, changes, compared, ends, fewest, following, greatest, kinds, layers, leaving,
                      levels, machines, mixed, notation, orders, readers, rounds, rows, strips, tight, trees, turning,
                      values, words)
from bowkinds.book import Book
from bowkinds.desk import Desk
from bowkinds.kinds import Kind, all_kinds
from bowkinds.rows import Row
from helpers import check_new, fewest as fewest_by_hand, greatest as greatest_by_hand, odd_values
from test_interface import CLASSES, FUNCTIONS

EXAMPLES = os.path.join(os.path.dirname(os.path.abspath(__file__)), "examples.txt")


class ExamplesTest(unittest.TestCase):
    def test_all_examples_of_the_document(self):
        told = doctest.testfile(EXAMPLES, module_relative=False)
        self.assertEqual([told.attempted, told.failed], [76, 0])


class WholeTest(unittest.TestCase):
    def questions(self):
        """A question to each function that tells lists, dicts or tuples, with all that is handed to them."""
        row, other = Row([(0, 2), (1, 3), (2, 4), (0, 2)]), Row([(0, 1), (0, 1), (4, 7), (2, 9)])
        free, chain, order = Kind(["apart"]), Kind(["chained"]), ["before", "meets"]
        dealing, digits, goings, machine_list = [0, None, 0, 0], [1, 1, 0], [1, 0, 2], ["pile", "line"]
        indexes, some_layers, tree = [3, 1, 1], [[2, 0], [], [1]], ("crowd", [0, 1])
        over = words.row_by("((()))", [1, 1, 0])
        handed = [row, other, free, chain, order, dealing, digits, goings, machine_list, indexes, some_layers, tree,
                  over]
        return handed, [
            lambda: following.directions_of("within"), lambda: following.follow("before", "after"),
            lambda: following.follow_all(order), lambda: row.bows(), lambda: row.places(),
            lambda: row.only(indexes).bows(),
            lambda: rows.directions_in(row), lambda: (~free).ways(), lambda: layers.not_together(row, free),
            lambda: layers.in_order(some_layers), lambda: orders.orders_of(["apart", "begun"]),
            lambda: orders.orders_of([]),
            lambda: tight.paper_of(free), lambda: tight.paper_of(chain), lambda: tight.ring_for(chain),
            lambda: [kind.ways() for kind in tight.tight_kinds()[:9]],
            lambda: [kind.ways() for kind in kinds.all_kinds()],
            lambda: chains.chains(row, order), lambda: chains.unordered(row, order, same=True),
            lambda: levels.levels(row, order), lambda: levels.long_chain(row, order, same=True),
            lambda: ends.end_numbers(row), lambda: ends.dealt(row), lambda: ends.unlike_ends(row),
            lambda: ends.hued(row),
            lambda: ends.most_at_an_end(row), lambda: fewest.layering_of(row, free), lambda: fewest.crowd_of(row, free),
            lambda: fewest.held(row, free), lambda: rounds.round_of(row, free), lambda: rounds.two_layers(row, ~free),
            lambda: rounds.barred_from(row, free, 0), lambda: rounds.linked(row, free),
            lambda: trees.layering_by_trying(row, chain), lambda: trees.tree_for(row, free, 2),
            lambda: trees.layerings(row, ~free, 2), lambda: trees.leaves(tree),
            lambda: greatest.greatest_layers(row, chain), lambda: greatest.full_layers(row, chain),
            lambda: greatest.greatest_layer(row, chain), lambda: leaving.left_out(row, chain, 1),
            lambda: leaving.left_values(row, chain), lambda: leaving.weighty_bows(row, chain),
            lambda: mixed.mixed_values(row, free, chain), lambda: mixed.mixed_layering(row, free, chain, 1),
            lambda: compared.way_counts(row), lambda: compared.ways_in(row), lambda: compared.unlike_pairs(row, other),
            lambda: compared.telling_ways(row, other), lambda: changes.changed_pairs(other, 1),
            lambda: changes.least_moves(row, chain, dealing, 4), lambda: changes.put_in(row, chain, dealing, (5, 6), 4),
            lambda: changes.taken_out(dealing, 1), lambda: strips.strip_values(row, 3, free),
            lambda: strips.strip_crowd(row, 3, free), lambda: words.depths("(())"), lambda: words.digits_of(over),
            lambda: words.row_by("((()))", digits).bows(), lambda: words.words_of(3), lambda: machines.goings_of(over),
            lambda: machines.off_a_pile("(())"), lambda: machines.off_a_line("(())"),
            lambda: machines.row_from("((()))", goings).bows(), lambda: machines.serve(over, machine_list),
            lambda: [told.bows() for told in turning.cuts(row, 7)], lambda: readers.read_layering("0,2;1"),
            lambda: readers.read_paper("chains after"), lambda: Book(row, free).log(),
            lambda: notation.show_layering([[0, 2], [1]]), lambda: Desk(row, free).execute("picture"),
            lambda: bows.turned_bow((0, 1)), lambda: values.are_directions(order),
        ]

    def test_all_that_is_told_is_new_and_told_again(self):
        handed, asked = self.questions()
        kept, _ = self.questions()
        check_new(self, *asked)
        self.assertEqual(handed, kept)

    def test_crowds_and_layers(self):
        # For a tight kind as many layers are needed as a greatest crowd has bows, whatever the row.
        row = Row([(0, 3), (4, 7), (1, 8), (2, 5), (0, 3), (3, 4)])
        for kind in all_kinds():
            needed = fewest_by_hand(row, lambda some: layers.is_layer(row, kind, some))
            crowd = greatest_by_hand(row, lambda some: layers.is_crowd(row, kind, some))
            self.assertGreaterEqual(needed, crowd)
            if tight.is_tight(kind):
                self.assertEqual([needed, crowd], [fewest.fewest_layers(row, kind)] * 2)
            else:
                ring = Row(tight.ring_for(kind))
                self.assertEqual([trees.fewest_by_trying(ring, kind), len(rounds.round_of(ring, kind))], [3, 5])
            same = Kind(["same"])
            self.assertIs(tight.is_tight(kind | same), tight.is_tight(kind - same))
            self.assertIs(tight.is_tight(~kind), tight.is_tight(kind))

    def test_any_value_is_taken_where_one_is_said(self):
        beside = {"row": Row([(0, 1), (2, 3)]), "kind": Kind(["apart"]), "one": Kind(["apart"]),
                  "other": Kind(["same"]),
                  "ways": ["apart"], "many": 2, "machines": ["pile"]}
        asked = []
        for file, functions in FUNCTIONS.items():
            for name, told in functions.items():
                parts = [part for part in told.split() if part[0] != "*"]
                if "thing" in parts and file != "notation":
                    function = getattr(importlib.import_module("bowkinds." + file), name)
                    for thing in odd_values():
                        given = [thing if part == "thing" else beside[part] for part in parts]
                        self.assertIsInstance(function(*given), bool)
                    asked.append(name)
        self.assertEqual(len(asked), 24)


class FunctionsTest(unittest.TestCase):
    def test_each_is_told_by_a_docstring(self):
        for file in {*FUNCTIONS, *CLASSES}:
            module = importlib.import_module("bowkinds." + file)
            for name in [*FUNCTIONS.get(file, {}), *CLASSES.get(file, {})]:
                self.assertTrue(inspect.getdoc(getattr(module, name)), name)


if __name__ == "__main__":
    unittest.main()
