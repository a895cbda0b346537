"""The interface: what stands in which file, with which arguments; the form of the files."""

import ast
import importlib
import inspect
import os
import unittest

FOLDER = os.path.join(os.path.dirname(os.path.abspath(__file__)), "..", "bowkinds")

# What each file defines, with its parameters, as DOC.md lists them; those behind
# a "*" are passed by keyword, and "=" tells that one may be left out.
FUNCTIONS = {
    "values": {
        "is_integer": "thing", "is_place": "thing", "is_bow": "thing", "are_bows": "thing",
        "is_way": "thing", "are_ways": "thing", "is_direction": "thing", "are_directions": "thing",
    },
    "bows": {
        "direction_of": "one other", "way_of": "one other", "turned_bow": "bow",
        "moved_bow": "bow by",
    },
    "following": {
        "reverse_of": "direction", "way_along": "direction", "directions_of": "way",
        "follow": "first second", "follow_all": "directions",
    },
    "rows": {"directions_in": "row", "are_alike": "one other"},
    "kinds": {"all_kinds": ""},
    "layers": {
        "together": "row kind i j", "not_together": "row kind", "is_layer": "row kind thing",
        "is_crowd": "row kind thing", "is_layering": "row kind thing", "in_order": "layers",
    },
    "orders": {"is_order": "ways thing", "orders_of": "ways"},
    "tight": {
        "is_tight": "kind", "tight_kinds": "", "paper_of": "kind", "is_paper": "kind thing",
        "ring_for": "kind", "is_ring": "kind thing",
    },
    "chains": {
        "is_ahead": "row directions i j *same=False", "chains": "row directions *same=False",
        "unordered": "row directions *same=False",
    },
    "levels": {
        "level_of": "row directions index *same=False", "levels": "row directions *same=False",
        "long_chain": "row directions *same=False",
    },
    "ends": {
        "end_numbers": "row *same=False", "are_enough": "row thing *same=False", "dealt": "row *same=False",
        "hued": "row *same=False", "unlike_ends": "row *same=False", "most_at_an_end": "row *same=False",
    },
    "fewest": {
        "fewest_layers": "row kind", "layering_of": "row kind", "held": "row kind", "crowd_of": "row kind",
        "is_shown": "row kind thing",
    },
    "rounds": {
        "is_round": "row kind thing", "round_of": "row kind", "two_layers": "row kind",
        "barred_from": "row kind index", "linked": "row kind", "in_two": "row kind i j", "many_in_two": "row kind",
    },
    "trees": {
        "fewest_by_trying": "row kind", "leaves": "tree", "layering_by_trying": "row kind",
        "layerings": "row kind many", "tree_for": "row kind many", "is_tree": "row kind many thing",
    },
    "greatest": {
        "greatest_layer": "row kind", "greatest_layers": "row kind", "full_layers": "row kind",
        "is_greatest": "row kind layer crowds",
    },
    "leaving": {
        "left_out": "row kind many", "left_values": "row kind", "weighty_bows": "row kind",
        "fewest_left": "row kind many", "is_left": "row kind many left layers",
    },
    "mixed": {
        "mixed_values": "row one other", "mixed_layering": "row one other many", "is_mixed": "row one other thing",
    },
    "compared": {
        "never_more": "one other", "is_showing": "one other thing", "alike_for": "row one other",
        "showing": "one other", "way_counts": "row", "ways_in": "row", "unlike_pairs": "row other",
        "telling_ways": "row other", "is_told": "kind row other",
    },
    "changes": {
        "exchanged": "row place", "changed_pairs": "row place", "is_dealing": "row kind thing many",
        "least_moves": "row kind dealing many", "put_in": "row kind dealing bow many", "taken_out": "dealing index",
    },
    "strips": {
        "strip": "piece step many", "enough_copies": "piece step", "strip_values": "piece step kind",
        "strip_fewest": "piece step kind many", "strip_crowd": "piece step kind",
    },
    "words": {
        "is_word": "thing", "depths": "word", "digits_of": "row", "rows_over": "word", "number_of": "row",
        "crossings": "row", "nestings": "row", "row_by": "word digits", "word_of": "row", "row_at": "word number",
        "words_of": "many",
    },
    "machines": {
        "goings_of": "row", "off_a_pile": "word", "off_a_line": "word", "row_from": "word goings",
        "serve": "row machines", "is_served": "row machines thing",
    },
    "turning": {
        "cut_at": "row places at", "cuts": "row places", "stays": "kind", "showing_cut": "kind",
        "is_showing_cut": "kind thing",
    },
    "notation": {
        "show_bow": "bow", "show_bows": "bows", "show_row": "row", "show_kind": "kind", "show_layer": "layer",
        "show_layering": "layers", "show_paper": "thing", "show_picture": "row",
    },
    "readers": {
        "read_bow": "text", "read_row": "text", "read_kind": "text", "read_layering": "text", "read_paper": "text",
    },
}
CLASSES = {
    "errors": {
        "BowError": {}, "Wrong": {"__init__": "place"}, "NoBow": {"__init__": "index"},
        "NoWay": {"__init__": "word"}, "NotTight": {"__init__": ""}, "Unlike": {"__init__": ""},
        "BadDigit": {"__init__": "at"}, "NoNumber": {"__init__": "number"},
        "BadGoing": {"__init__": "at"}, "Nothing": {"__init__": ""}, "BadEdit": {"__init__": ""},
        "NoText": {"__init__": "line"}, "NoCommand": {"__init__": ""},
    },
    "rows": {
        "Row": {
            "__init__": "bows", "__eq__": "other", "__len__": "", "__iter__": "", "__or__": "other",
            "__getitem__": "index", "bows": "", "places": "", "put": "bow", "without": "index",
            "only": "indexes", "turned": "", "moved": "by", "plain": "",
        },
    },
    "kinds": {
        "Kind": {
            "__init__": "ways", "__eq__": "other", "__len__": "", "__iter__": "",
            "__contains__": "thing", "__invert__": "", "__or__": "other", "__and__": "other",
            "__sub__": "other", "ways": "", "turned": "", "lets": "one other", "inside_of": "other",
        },
    },
    "book": {
        "Book": {
            "__init__": "row kind", "__eq__": "other", "__len__": "", "__iter__": "", "do": "edit", "back": "",
            "again": "", "log": "", "copied": "",
        },
    },
    "desk": {"Desk": {"__init__": "row kind", "execute": "line", "book": ""}},
}
PROPERTIES = {("book", "Book"): ["row", "kind"]}
# The files in the order in which they are written.
FILES = """errors values bows following rows kinds layers orders tight chains levels ends fewest rounds trees greatest
leaving mixed compared changes strips words machines turning notation readers book desk""".split()


def parameters(function):
    told = []
    for name, parameter in inspect.signature(function).parameters.items():
        sign = "*" if parameter.kind is inspect.Parameter.KEYWORD_ONLY else ""
        worth = "" if parameter.default is inspect.Parameter.empty else f"={parameter.default!r}"
        told.append(sign + name + worth)
    return " ".join(told)


def package_files():
    return sorted(name for name in os.listdir(FOLDER) if name != "__pycache__")


def text_of(name):
    with open(os.path.join(FOLDER, name), encoding="utf-8") as file:
        return file.read()


class InterfaceTest(unittest.TestCase):
    def test_functions(self):
        for file, functions in FUNCTIONS.items():
            module = importlib.import_module("bowkinds." + file)
            for name, told in functions.items():
                function = getattr(module, name)
                self.assertEqual(function.__module__, module.__name__)
                self.assertEqual(parameters(function), told, name)

    def test_classes_define_their_methods_themselves(self):
        for file, classes in CLASSES.items():
            module = importlib.import_module("bowkinds." + file)
            for name, methods in classes.items():
                found = getattr(module, name)
                self.assertEqual(found.__module__, module.__name__)
                for method, told in methods.items():
                    self.assertIn(method, vars(found), name)
                    self.assertEqual(parameters(vars(found)[method]), ("self " + told).strip(), method)


    def test_properties(self):
        for (file, name), properties in PROPERTIES.items():
            found = getattr(importlib.import_module("bowkinds." + file), name)
            for told in properties:
                self.assertIsInstance(vars(found)[told], property)

    def test_all_files_are_there(self):
        self.assertEqual({*FUNCTIONS, *CLASSES}, {*FILES})
        for file in FILES:
            self.assertIn(file + ".py", package_files())

    def test_errors_are_direct_subclasses(self):
        errors = importlib.import_module("bowkinds.errors")
        for name in CLASSES["errors"]:
            base = ValueError if name == "BowError" else errors.BowError
            self.assertEqual(getattr(errors, name).__bases__, (base,))


class FilesTest(unittest.TestCase):
    def test_the_folder_holds_plain_files_alone(self):
        for name in package_files():
            self.assertRegex(name, r"\A[a-z_]+\.py\Z")

    def test_sizes_and_signs(self):
        for name in package_files():
            text = text_of(name)
            self.assertTrue(all(sign == "\n" or " " <= sign <= "~" for sign in text), name)
            lines = text.split("\n")
            self.assertLess(len(lines), 400, name)
            self.assertLessEqual(max(len(line) for line in lines), 120, name)
            for node in ast.walk(ast.parse(text)):
                if isinstance(node, ast.FunctionDef):
                    self.assertLessEqual(node.end_lineno - node.lineno, 39, node.name)

    def test_imports_are_of_the_package_by_full_names(self):
        for name in package_files():
            for node in ast.walk(ast.parse(text_of(name))):
                self.assertNotIsInstance(node, ast.Import)
                if isinstance(node, ast.ImportFrom):
                    self.assertTrue(node.module.startswith("bowkinds."), name)
                    self.assertEqual(node.level, 0)

    def test_module_level_holds_no_code(self):
        allowed = (ast.Expr, ast.ImportFrom, ast.FunctionDef, ast.ClassDef, ast.Assign)
        for name in package_files():
            for node in ast.parse(text_of(name)).body:
                self.assertIsInstance(node, allowed, name)
                if isinstance(node, ast.Expr):
                    self.assertIsInstance(node.value, ast.Constant)


if __name__ == "__main__":
    unittest.main()
