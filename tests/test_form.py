"""The form of the package: sizes, characters, imports, and where the interface is defined."""

import ast
import pathlib
import unittest

PACKAGE = pathlib.Path(__file__).resolve().parent.parent / "coldcrates"
LIBRARY = {"heapq", "math", "itertools", "collections"}
INTERFACE = {
    "stores": ["Store", "layouts", "layout_count", "is_layout", "place_of", "behind"],
    "deeds": ["after"],
    "logs": ["now", "first", "stories", "could_lie", "surely_lies", "share", "first_wrong", "fewest_wrong"],
    "finding": ["search", "best_search", "least_warmth", "least_mean", "least_to_know", "doors_to_know", "next_door"],
    "taking": ["takings", "least_steps", "is_sorted", "least_sorting"],
    "hands": ["deeds_between", "who_could", "least_habits"],
    "hours": ["warmths", "first_thaw", "hours_for", "best_openings"],
    "speaking": ["spoken", "first_to_know", "needed_doors"],
    "plans": ["least_plan", "least_fixed", "worth_moving"],
    "lives": ["Live", "Trial"],
    "keepers": ["Keeper"],
    "tables": ["table", "shelf"],
    "notation": ["format_store", "parse_store"],
    "codec": ["encode_store", "decode_store"],
    "scripts": ["run_script"],
}
METHODS = {
    ("stores", "Store"): ["door_of", "places_of", "doors", "crates", "size", "__len__", "__eq__"],
    ("lives", "Live"): ["look", "put", "exchange", "shut", "keep_as", "fetch", "undo", "redo", "apply_all", "tried_out",
                        "replay", "layout_now", "warmth_now", "day_warmths", "kept_under", "history"],
    ("lives", "Trial"): ["hold", "__enter__", "__exit__"],
    ("keepers", "Keeper"): ["saw", "inspected", "could_have_moved", "next_doors", "layouts_left", "seen_so_far"],
}


class FormTest(unittest.TestCase):
    def setUp(self):
        self.texts = {path.name: path.read_text() for path in sorted(PACKAGE.glob("*.py"))}
        self.trees = {name: ast.parse(text) for name, text in self.texts.items()}

    def test_sizes_and_characters(self):
        for name, text in self.texts.items():
            rows = text.split("\n")
            self.assertLessEqual(len(rows), 400, name)
            self.assertLessEqual(max(len(row) for row in rows), 120, name)
            self.assertTrue(all(" " <= sign <= "~" or sign == "\n" for sign in text), name)

    def test_functions_are_small_and_told_about(self):
        for name, tree in self.trees.items():
            for node in ast.walk(tree):
                if isinstance(node, ast.FunctionDef):
                    self.assertLessEqual(node.end_lineno - node.lineno + 1, 40, (name, node.name))
                if isinstance(node, ast.Module | ast.ClassDef):
                    self.assertTrue(ast.get_docstring(node), (name, node))

    def test_imports(self):
        for name, tree in self.trees.items():
            for node in ast.walk(tree):
                self.assertNotIsInstance(node, ast.Import, name)
                if isinstance(node, ast.ImportFrom):
                    file = node.module.removeprefix("coldcrates.") + ".py"
                    self.assertTrue(node.module in LIBRARY or file in self.texts, (name, node.module))

    def test_interface_is_defined_in_its_file(self):
        for file, names in INTERFACE.items():
            defined = [node.name for node in self.trees[file + ".py"].body
                       if isinstance(node, ast.FunctionDef | ast.ClassDef)]
            self.assertLessEqual(set(names), set(defined))

    def test_methods_are_defined_in_their_class(self):
        for (file, name), methods in METHODS.items():
            classes = [node for node in self.trees[file + ".py"].body
                       if isinstance(node, ast.ClassDef) and node.name == name]
            defined = [node.name for node in classes[0].body if isinstance(node, ast.FunctionDef)]
            self.assertLessEqual(set(methods), set(defined))


if __name__ == "__main__":
    unittest.main()
