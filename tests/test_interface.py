"""The names and examples of the document's interface, as they are written there."""

import ast
import inspect
import pathlib
import unittest

import splitstock
from splitstock import balance, catalogues, counting, readings, stores, texts, ways
from splitstock.errors import TooManySteps
from tests.cases import expect

FUNCTIONS = [
    (catalogues, "kinds", ["catalogue"]),
    (catalogues, "pieces", ["catalogue", "stock", "splits"]),
    (catalogues, "whole_pieces", ["catalogue", "stock", "splits"]),
    (catalogues, "total_splits", ["catalogue", "stock"]),
    (balance, "balanced", ["catalogue", "stock", "number"]),
    (balance, "displacement", ["catalogue", "stock", "splits"]),
    (balance, "heaviest", ["catalogue", "stock", "number"]),
    (balance, "splits_for", ["catalogue", "stock", "limit"]),
    (ways, "distance", ["catalogue", "stock", "first", "second"]),
    (ways, "way", ["catalogue", "stock", "first", "second"]),
    (ways, "count_ways", ["catalogue", "stock", "first", "second"]),
    (counting, "count_states", ["catalogue", "stock"]),
    (counting, "states", ["catalogue", "stock", "number"]),
    (texts, "show_numbers", ["numbers"]),
    (texts, "show_catalogue", ["catalogue"]),
    (readings, "read_numbers", ["text"]),
    (readings, "read_catalogue", ["text"]),
]

METHODS = [
    ("__init__", ["self", "catalogue", "stock", "splits"]),
    ("splits", ["self"]),
    ("stock", ["self"]),
    ("whole", ["self"]),
    ("number", ["self"]),
    ("next_split", ["self"]),
    ("next_undo", ["self"]),
    ("split", ["self", "times"]),
    ("undo", ["self", "times"]),
    ("run", ["self", "history"]),
    ("receive", ["self", "name", "number"]),
]


class NamesTest(unittest.TestCase):
    def test_functions_stand_in_their_file(self):
        for module, name, names in FUNCTIONS:
            with self.subTest(name):
                function = getattr(module, name)
                self.assertEqual(function.__module__, module.__name__)
                self.assertEqual(list(inspect.signature(function).parameters), names)

    def test_methods_stand_in_their_class(self):
        self.assertEqual(stores.Store.__module__, "splitstock.stores")
        self.assertIn("__eq__", vars(stores.Store))
        for name, names in METHODS:
            with self.subTest(name):
                method = vars(stores.Store)[name]
                self.assertEqual(list(inspect.signature(method).parameters), names)

    def test_package_imports_only_itself_and_binomials(self):
        folder = pathlib.Path(splitstock.__file__).parent
        for path in folder.glob("*.py"):
            for node in ast.walk(ast.parse(path.read_text())):
                with self.subTest(path.name):
                    self.assertNotIsInstance(node, ast.Import)
                    if isinstance(node, ast.ImportFrom):
                        names = [alias.name for alias in node.names]
                        if (node.module, names) != ("math", ["comb"]):
                            self.assertTrue(node.module.startswith("splitstock."))


class ExamplesTest(unittest.TestCase):
    def test_kinds(self):
        from splitstock.catalogues import kinds
        found = kinds([('c', 1, []), ('s', 3, ['c', 'c']), ('m', 6, ['s', 's']), ('l', 10, ['m', 'm'])])
        self.assertEqual(repr(found), "['l', 'm', 's', 'c']")

    def test_pieces(self):
        from splitstock.catalogues import pieces
        catalogue = [('c', 1, []), ('s', 3, ['c', 'c']), ('m', 6, ['s', 's'])]
        found = pieces(catalogue, {'m': 2, 's': 1}, {'m': 1, 's': 3})
        self.assertEqual(repr(found), "{'m': 2, 's': 3, 'c': 6}")

    def test_whole_pieces(self):
        from splitstock.catalogues import whole_pieces
        catalogue = [('c', 1, []), ('s', 3, ['c', 'c']), ('m', 6, ['s', 's'])]
        found = whole_pieces(catalogue, {'m': 2, 's': 1}, {'m': 1, 's': 3})
        self.assertEqual(repr(found), "{'m': 1, 'c': 6}")

    def test_total_splits(self):
        from splitstock.catalogues import total_splits
        found = total_splits([('c', 1, []), ('s', 3, ['c', 'c']), ('m', 6, ['s', 's'])], {'m': 2, 's': 1})
        self.assertEqual(repr(found), "7")

    def test_store(self):
        from splitstock.stores import Store
        store = Store([('c', 1, []), ('s', 3, ['c', 'c']), ('m', 6, ['s', 's'])], {'m': 2, 's': 1}, {'s': 1})
        store.split(3)
        store.undo()
        found = [store.splits(), store.whole(), store.next_split(), store.next_undo()]
        self.assertEqual(repr(found), "[{'m': 2, 's': 1}, {'s': 4, 'c': 2}, 's', 's']")

    def test_run(self):
        from splitstock.stores import Store
        store = Store([('c', 1, []), ('s', 3, ['c', 'c'])], {'s': 1})
        expect(self, TooManySteps, 1, store.run, [('split', 1), ('undo', 2)])

    def test_balanced(self):
        from splitstock.balance import balanced
        found = balanced([('c', 1, []), ('s', 3, ['c', 'c']), ('m', 6, ['s', 's'])], {'m': 2, 's': 1}, 4)
        self.assertEqual(repr(found), "{'m': 2, 's': 2}")

    def test_displacement(self):
        from splitstock.balance import displacement
        found = displacement([('c', 1, []), ('s', 3, ['c', 'c']), ('m', 6, ['s', 's'])], {'m': 2, 's': 1}, {'s': 1})
        self.assertEqual(repr(found), "1")

    def test_heaviest(self):
        from splitstock.balance import heaviest
        found = heaviest([('c', 1, []), ('s', 3, ['c', 'c']), ('m', 6, ['s', 's'])], {'m': 2, 's': 1}, 2)
        self.assertEqual(repr(found), "3")

    def test_splits_for(self):
        from splitstock.balance import splits_for
        found = splits_for([('c', 1, []), ('s', 3, ['c', 'c']), ('m', 6, ['s', 's'])], {'m': 2, 's': 1}, 2)
        self.assertEqual(repr(found), "7")

    def test_distance(self):
        from splitstock.ways import distance
        catalogue = [('a', 9, ['x', 'u']), ('b', 8, ['x', 'v']), ('x', 5, ['c', 'c']), ('u', 4, []), ('v', 3, []), ('c', 2, [])]
        found = distance(catalogue, {'a': 1, 'b': 1}, {'a': 1, 'x': 1}, {'b': 1, 'x': 1})
        self.assertEqual(repr(found), "2")

    def test_way(self):
        from splitstock.ways import way
        catalogue = [('a', 9, ['x', 'u']), ('b', 8, ['x', 'v']), ('x', 5, ['c', 'c']), ('u', 4, []), ('v', 3, []), ('c', 2, [])]
        found = way(catalogue, {'a': 1, 'b': 1}, {'a': 1, 'x': 1}, {'b': 1, 'x': 1})
        self.assertEqual(repr(found), "[('split', 'b', 1), ('undo', 'a', 1)]")

    def test_count_ways(self):
        from splitstock.ways import count_ways
        found = count_ways([('c', 1, []), ('s', 3, ['c', 'c']), ('m', 6, ['s', 's'])], {'m': 1, 's': 1}, {}, {'m': 1, 's': 1})
        self.assertEqual(repr(found), "2")

    def test_count_states(self):
        from splitstock.counting import count_states
        found = count_states([('c', 1, []), ('s', 3, ['c', 'c']), ('m', 6, ['s', 's'])], {'m': 1, 's': 1})
        self.assertEqual(repr(found), "6")

    def test_states(self):
        from splitstock.counting import states
        found = states([('c', 1, []), ('s', 3, ['c', 'c']), ('m', 6, ['s', 's'])], {'m': 1, 's': 1}, 2)
        self.assertEqual(repr(found), "[{'m': 1, 's': 1}]")

    def test_show_numbers(self):
        from splitstock.texts import show_numbers
        found = show_numbers({'s': 2, 'm': 10, 'c': 0})
        self.assertEqual(repr(found), "'m:10 s:2'")

    def test_read_catalogue(self):
        from splitstock.readings import read_catalogue
        found = read_catalogue('c 1, s 3 c c')
        self.assertEqual(repr(found), "[('c', 1, []), ('s', 3, ['c', 'c'])]")


if __name__ == "__main__":
    unittest.main()
