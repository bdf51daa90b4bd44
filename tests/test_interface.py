"""[36] and [2] to [4]: the names, the files and the kinds of arguments."""

import ast
import importlib
import inspect
import pathlib
import unittest

PACKAGE = pathlib.Path(__file__).resolve().parent.parent / "spentblocks"

FUNCTIONS = {
    "stands": {"stand_of": "(shape)", "fresh": "(keys, blocks, pages, left, fails, cuts)"},
    "names": {"renamed": "(stand, blocks, keys)", "first_name": "(stand)"},
    "lives": {"life": "(stand, *, most=20000)", "plan": "(stand, *, most=20000)",
              "enemy_plan": "(stand, *, most=20000)"},
    "judges": {"plan_fault": "(stand, n, thing)", "enemy_fault": "(stand, n, thing)"},
    "ahead": {"life_ahead": "(stand, row, *, most=20000)", "plan_ahead": "(stand, row, *, most=20000)",
              "enemy_ahead": "(stand, row, *, most=20000)", "worths": "(stand, window, *, most=20000)"},
    "advice": {"good_acts": "(stand, *, most=20000)", "hard_keys": "(stand, *, most=20000)",
               "falls": "(stand, row, *, most=20000)"},
    "borders": {"goes_on": "(stand)", "kept_free": "(stand)", "lone_life": "(rooms, at)"},
    "sizes": {"least_left": "(keys, blocks, pages, fails, cuts, puts, *, most=20000)",
              "least_blocks": "(keys, pages, left, fails, cuts, puts, *, most=20000)"},
    "policies": {"policy_act": "(stand, policy)", "policy_life": "(stand, policy, *, most=20000)",
                 "policy_row": "(stand, policy, *, most=20000)", "policy_fault": "(stand, policy, n, thing)"},
    "rows": {"least_erases": "(stand, puts, *, most=20000)", "acts_fault": "(stand, puts, thing)"},
    "tables": {"erase_table": "(stand, puts, *, most=20000)", "table_fault": "(stand, puts, n, thing)"},
    "sums": {"made_good": "(sums, lost)", "good_fault": "(sums, lost, thing)", "survives": "(sums, many)",
             "worst": "(sums)", "crossed": "(blocks, pages)"},
    "records": {"record": "(key, number, value)", "read_record": "(content)"},
    "stores": {"looked": "(chip, keys)", "stand_seen": "(chip, keys, fails, cuts)"},
    "texts": {"stand_text": "(stand)", "read_stand": "(text)", "row_text": "(row)", "read_row": "(text)"},
    "images": {"image_text": "(chip)", "read_image": "(text)"},
    "aheadjudges": {"plan_ahead_fault": "(stand, row, n, thing)", "enemy_ahead_fault": "(stand, row, n, thing)"},
}

CLASSES = {
    ("stands", "Stand"): "(keys, blocks, fails, cuts, *, asked=None)",
    ("chips", "Chip"): "(blocks, pages, left)",
    ("stores", "Store"): "(chip, keys, adviser)",
    ("matches", "Match"): "(stand)",
    ("desk", "Desk"): "()",
}

METHODS = {
    ("stands", "Stand"): {
        "many": "(self)", "blocks": "(self)", "fails": "(self)", "cuts": "(self)", "asked": "(self)",
        "where": "(self, key)", "shape": "(self)", "__eq__": "(self, other)", "put": "(self, key)", "acts": "(self)",
        "replies": "(self, act)", "after": "(self, act, reply)", "served": "(self, act, reply)",
    },
    ("chips", "Chip"): {
        "size": "(self)", "left": "(self, b)", "read": "(self, b, p)", "tell": "(self, replies)", "told": "(self)",
        "write": "(self, b, content)", "erase": "(self, b)", "copy": "(self)",
    },
    ("stores", "Store"): {
        "get": "(self, key)", "stand": "(self, fails, cuts)", "put": "(self, key, value, fails, cuts)",
        "serves": "(self, rows, fails, cuts)",
    },
    ("matches", "Match"): {
        "stand": "(self)", "ask": "(self, key)", "make": "(self, act, reply)", "served": "(self)", "row": "(self)",
        "back": "(self, many)", "__len__": "(self)", "tried": "(self, action)", "best": "(self, *, most=20000)",
    },
    ("desk", "Desk"): {"tell": "(self, line)", "undoable": "(self)"},
}


def defined(module):
    """The names of the functions and classes that the file itself defines."""
    tree = ast.parse((PACKAGE / f"{module}.py").read_text())
    return {node.name for node in tree.body if isinstance(node, (ast.FunctionDef, ast.ClassDef))}


class Interface(unittest.TestCase):

    def test_functions_stand_in_their_files_with_their_arguments(self):
        for module, functions in FUNCTIONS.items():
            for name, arguments in functions.items():
                with self.subTest(module=module, name=name):
                    self.assertIn(name, defined(module))
                    function = getattr(importlib.import_module(f"spentblocks.{module}"), name)
                    self.assertEqual(str(inspect.signature(function)), arguments)

    def test_classes_and_their_methods_stand_in_their_files(self):
        self.assertEqual(list(CLASSES), list(METHODS))
        for (module, name), arguments in CLASSES.items():
            with self.subTest(name):
                self.assertIn(name, defined(module))
                found = getattr(importlib.import_module(f"spentblocks.{module}"), name)
                self.assertEqual(str(inspect.signature(found)), arguments)
                for method, told in METHODS[(module, name)].items():
                    self.assertEqual(str(inspect.signature(vars(found)[method])), told)

    def test_errors_stand_in_their_file(self):
        tree = ast.parse((PACKAGE / "errors.py").read_text())
        self.assertTrue(all(isinstance(node, ast.ClassDef) for node in tree.body[1:]))

    def test_what_the_document_excludes_is_not_there(self):
        for path in PACKAGE.glob("*.py"):
            for node in ast.walk(ast.parse(path.read_text())):
                if isinstance(node, ast.ImportFrom):
                    first = node.module.split(".")[0]
                    self.assertIn(first, ("spentblocks", "heapq", "math", "itertools", "collections"))
                self.assertNotIsInstance(node, ast.Import)


if __name__ == "__main__":
    unittest.main()
