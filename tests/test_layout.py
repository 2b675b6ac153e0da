"""The interface stands in the files and with the names that the document lists, and the files are kept plain."""

import ast
import os
import unittest
import warnings

PACKAGE = os.path.join(os.path.dirname(os.path.dirname(os.path.abspath(__file__))), "beadrings")

FUNCTIONS = {
    "words.py": {"is_word": ["thing"], "turned": ["word", "by"], "turnings": ["word"], "mirrored": ["word"]},
    "rings.py": {
        "ring_of": ["word"], "is_ring": ["thing"], "are_one": ["one", "other"], "turning_of": ["one", "other"],
        "period": ["word"],
    },
    "parting.py": {"parts_of": ["word"], "is_prime": ["thing"]},
    "orders.py": {
        "next_ring": ["ring", "colours"], "all_rings": ["length", "colours"], "number_of": ["ring", "colours"],
        "ring_at": ["number", "length", "colours"],
    },
    "counts.py": {
        "many_rings": ["length", "colours"], "many_primes": ["length", "colours"],
        "many_mirrored": ["length", "colours"], "many_own": ["length", "colours"],
    },
    "mirrors.py": {"mirror_of": ["word"], "is_own_mirror": ["word"]},
    "chains.py": {"long_word": ["length", "colours"], "place_of": ["text", "length", "colours"]},
}

CLASSES = {
    "BeadError": ["ValueError"], "BadNumber": ["BeadError"], "BadRing": ["BeadError"], "BadWord": ["BeadError"],
    "NoRing": ["BeadError"], "TooMany": ["BeadError"],
}

LIBRARY = {"math", "heapq", "itertools", "collections"}


def file_names():
    return sorted(name for name in os.listdir(PACKAGE) if name != "__pycache__")


def text_of(name):
    with open(os.path.join(PACKAGE, name), encoding="utf-8", newline="") as held:
        return held.read()


def tree_of(name):
    return ast.parse(text_of(name))


class Interface(unittest.TestCase):
    def test_functions_are_defined_in_their_files(self):
        for name, listed in FUNCTIONS.items():
            defined = {
                node.name: [part.arg for part in node.args.args]
                for node in tree_of(name).body if isinstance(node, ast.FunctionDef)
            }
            for function, arguments in listed.items():
                with self.subTest(file=name, function=function):
                    self.assertEqual(defined.get(function), arguments)

    def test_classes_are_defined_in_errors(self):
        defined = {
            node.name: [base.id for base in node.bases]
            for node in tree_of("errors.py").body if isinstance(node, ast.ClassDef)
        }
        self.assertEqual(defined, CLASSES)


class Files(unittest.TestCase):
    def test_the_folder_holds_only_python_files(self):
        for name in file_names():
            self.assertRegex(name, r"\A[a-z0-9_]+\.py\Z")

    def test_sizes_and_signs(self):
        for name in file_names():
            text = text_of(name)
            with self.subTest(file=name):
                self.assertTrue(all(sign == "\n" or " " <= sign <= "~" for sign in text))
                lines = text.split("\n")
                self.assertLess(len(lines), 400)
                self.assertLessEqual(max(len(line) for line in lines), 120)

    def test_functions_are_small(self):
        for name in file_names():
            for node in ast.walk(tree_of(name)):
                if isinstance(node, ast.FunctionDef):
                    with self.subTest(file=name, function=node.name):
                        self.assertLessEqual(node.end_lineno - node.lineno + 1, 40)

    def test_imports(self):
        for name in file_names():
            for node in ast.walk(tree_of(name)):
                self.assertNotIsInstance(node, ast.Import, name)
                if isinstance(node, ast.ImportFrom):
                    with self.subTest(file=name, line=node.lineno):
                        self.assertEqual(node.level, 0)
                        self.assertTrue(node.module.startswith("beadrings.") or node.module in LIBRARY)

    def test_no_file_gives_a_warning(self):
        for name in file_names():
            with warnings.catch_warnings():
                warnings.simplefilter("error")
                compile(text_of(name), name, "exec")


if __name__ == "__main__":
    unittest.main()
