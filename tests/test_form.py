"""Those rules of the language of the package that can be told from its files."""

import ast
import builtins
import pathlib
import re
import unittest

PACKAGE = pathlib.Path(__file__).resolve().parent.parent / "spentblocks"
FILES = sorted(PACKAGE.glob("*.py"))

BUILTINS = """len range enumerate zip min max sum abs sorted reversed int str bool bytes list tuple dict set frozenset
isinstance ord repr any all divmod iter next map getattr hasattr setattr type super Exception ValueError TypeError KeyError
IndexError LookupError ZeroDivisionError ArithmeticError OverflowError RuntimeError NotImplementedError AttributeError
StopIteration NotImplemented""".split()

METHODS = """append clear copy count endswith extend find get index insert isalnum isalpha isdigit islower isspace isupper
items join keys ljust lower lstrip partition pop remove replace reverse rfind rjust rpartition rsplit rstrip setdefault
split splitlines startswith strip update upper values zfill bit_length""".split()

BARRED = """type typing typing_extensions enum Enum IntEnum StrEnum Flag IntFlag Generic Protocol ABC ABCMeta namedtuple
NamedTuple TypedDict TYPE_CHECKING abstractmethod dataclass overload contextmanager""".split()

BARRED_NAMES = """register mro elements open input law version_info with_traceback add_note id hash dir vars eval exec
compile exit help license globals locals format""".split()

BARRED_NODES = (ast.AsyncFunctionDef, ast.Global, ast.GeneratorExp, ast.Yield, ast.YieldFrom, ast.Await, ast.Div, ast.Set,
                ast.SetComp, ast.Try, ast.With, ast.Match, ast.NamedExpr, ast.JoinedStr, ast.Nonlocal)

# Where a barred node is used all the same, by a rule that was looked up.
LET = {("ahead.py", "Try"): "its own error TooMany, around calls of own functions",
       ("stores.py", "Try"): "its own errors WentBad, PowerLost and Unserved, around calls of own methods",
       ("matches.py", "Try"): "a finally that only puts two attributes back",
       ("sums.py", "SetComp"): "directly in sorted(..)"}


def nodes(path):
    return list(ast.walk(ast.parse(path.read_text())))


def bound_names(tree):
    """All names that are bound anywhere but as attributes."""
    for node in tree:
        if isinstance(node, ast.Name) and isinstance(node.ctx, ast.Store):
            yield node.id
        elif isinstance(node, (ast.FunctionDef, ast.ClassDef)):
            yield node.name
        elif isinstance(node, ast.arg):
            yield node.arg


def own_functions(tree):
    return {node.name for node in tree if isinstance(node, ast.FunctionDef)}


class Form(unittest.TestCase):

    def test_the_folder_holds_python_files_alone(self):
        found = [path.name for path in PACKAGE.iterdir() if path.name != "__pycache__"]
        self.assertEqual(sorted(found), [path.name for path in FILES])
        for name in found:
            self.assertTrue(re.fullmatch(r"[a-z0-9_]+\.py", name), name)

    def test_sizes(self):
        for path in FILES:
            lines = path.read_text().split("\n")
            self.assertLessEqual(len(lines), 399, path.name)
            for at, line in enumerate(lines, 1):
                self.assertLessEqual(len(line), 120, f"{path.name}:{at}")
            for node in nodes(path):
                if isinstance(node, ast.FunctionDef):
                    self.assertLessEqual(node.end_lineno - node.lineno + 1, 40, f"{path.name}: {node.name}")

    def test_characters(self):
        for path in FILES:
            self.assertRegex(path.read_text(), r"\A[\n -~]*\Z", path.name)
            for node in nodes(path):
                if isinstance(node, ast.Constant) and isinstance(node.value, str):
                    self.assertNotIn("%", node.value)

    def test_barred_words_and_names(self):
        for path in FILES:
            tree = nodes(path)
            code = re.sub(r'""".*?"""|#[^\n]*', "", path.read_text(), flags=re.S)
            for word in BARRED:
                self.assertNotRegex(code, rf"\b{word}\b", path.name)
            for name in bound_names(tree):
                self.assertNotIn(name, BARRED_NAMES + dir(builtins), path.name)
                self.assertRegex(name, r"\A(__(init|eq|len)__|_?[A-Za-z][A-Za-z0-9_]*|_)\Z", path.name)

    def test_no_barred_node(self):
        for path in FILES:
            for node in nodes(path):
                if isinstance(node, BARRED_NODES) and (path.name, node.__class__.__name__) not in LET:
                    self.fail(f"{path.name}:{node.lineno}: {node.__class__.__name__}")

    def test_builtins_and_methods(self):
        trees = {path.name: nodes(path) for path in FILES}
        own = set()
        for tree in trees.values():
            own |= own_functions(tree)
        for name, tree in trees.items():
            for node in tree:
                if isinstance(node, ast.Name) and hasattr(builtins, node.id):
                    self.assertIn(node.id, BUILTINS, name)
                if isinstance(node, ast.Call) and isinstance(node.func, ast.Attribute):
                    self.assertIn(node.func.attr, own | set(METHODS), name)

    def test_is_stands_with_none_alone(self):
        for path in FILES:
            for node in nodes(path):
                if isinstance(node, ast.Compare):
                    for sign, side in zip(node.ops, node.comparators):
                        if isinstance(sign, (ast.Is, ast.IsNot)):
                            self.assertIsInstance(side, ast.Constant, path.name)

    def test_nothing_but_definitions_at_module_level(self):
        for path in FILES:
            for node in ast.parse(path.read_text()).body:
                self.assertIsInstance(node, (ast.Expr, ast.ImportFrom, ast.FunctionDef, ast.ClassDef, ast.Assign))
                if isinstance(node, (ast.FunctionDef, ast.ClassDef)):
                    self.assertEqual(node.decorator_list, [])
                    self.assertTrue(ast.get_docstring(node), f"{path.name}: {node.name}")

    def test_names_of_a_file_are_not_hidden(self):
        for path in FILES:
            tree = ast.parse(path.read_text())
            taken = {alias.name for node in tree.body if isinstance(node, ast.ImportFrom) for alias in node.names}
            taken |= {node.name for node in tree.body if isinstance(node, ast.ClassDef)}
            inner = [node for node in ast.walk(tree) if node not in tree.body]
            for name in bound_names(inner):
                self.assertNotIn(name, taken, path.name)

    def test_imports_are_used_and_stand_once(self):
        for path in FILES:
            tree = nodes(path)
            told = [alias.name for node in tree if isinstance(node, ast.ImportFrom) for alias in node.names]
            self.assertEqual(len(told), len(set(told)), path.name)
            used = {node.id for node in tree if isinstance(node, ast.Name)}
            self.assertEqual(set(told) - used, set(), path.name)

    def test_imports_do_not_go_round(self):
        needs = {}
        for path in FILES:
            needs[path.stem] = {node.module.split(".")[1] for node in nodes(path)
                                if isinstance(node, ast.ImportFrom) and node.module.startswith("spentblocks.")}
        while needs:
            ready = [name for name, others in needs.items() if not others & set(needs)]
            self.assertTrue(ready, f"these import from each other: {sorted(needs)}")
            for name in ready:
                del needs[name]


if __name__ == "__main__":
    unittest.main()
