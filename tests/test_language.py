"""The rules of the language subset that can be seen from the code alone."""

import ast
import builtins
import pathlib
import re
import unittest

PACKAGE = pathlib.Path(__file__).resolve().parent.parent / "anyvalues"

ALLOWED_BUILTINS = set(
    "len range enumerate zip min max sum abs sorted reversed int str bool list tuple dict set isinstance ord repr"
    " any all divmod ValueError KeyError".split()
)
ALLOWED_METHODS = set(
    "append clear copy count endswith extend find get index insert isalnum isalpha isdigit islower isspace isupper"
    " items join keys ljust lower lstrip partition pop remove replace reverse rfind rjust rpartition rsplit rstrip"
    " setdefault split splitlines startswith strip update upper values zfill bit_length __init__".split()
)
BARRED_NAMES = set(
    "register mro elements open input law version_info with_traceback add_note attrgetter breakpoint builtins compile"
    " copyright delattr dir eval exec exit gc getattr globals hasattr help id importlib license locals methodcaller os"
    " quit setattr super type vars sys iter next chr bytes print".split()
)
BARRED_WORDS = re.compile(
    r"\b(typing|typing_extensions|enum|Enum|Generic|Protocol|ABC|ABCMeta|namedtuple|NamedTuple|TypedDict)\b"
    r"|dataclass|overload|contextmanager|_wall"
)
BARRED_NODES = (
    ast.AsyncFunctionDef, ast.Global, ast.Import, ast.NamedExpr, ast.Div, ast.AnnAssign, ast.Await, ast.Yield,
    ast.YieldFrom, ast.With, ast.Match,
)


def files():
    return sorted(PACKAGE.glob("*.py"))


def trees():
    return [(path, ast.parse(path.read_text())) for path in files()]


def bound_names(tree):
    """All names that the file gives to something, with their lines."""
    for node in ast.walk(tree):
        if isinstance(node, ast.Name) and not isinstance(node.ctx, ast.Load):
            yield node.id, node.lineno
        elif isinstance(node, ast.arg):
            yield node.arg, node.lineno
        elif isinstance(node, (ast.FunctionDef, ast.ClassDef)):
            yield node.name, node.lineno


class Language(unittest.TestCase):

    def test_the_folder_holds_plain_python_files_alone(self):
        for path in PACKAGE.iterdir():
            if path.name != "__pycache__":
                self.assertTrue(re.fullmatch(r"[a-z][a-z0-9_]*\.py|__init__\.py", path.name), path)

    def test_sizes_and_characters(self):
        for path in files():
            text = path.read_text()
            self.assertLessEqual(len(text.split("\n")), 399, path)
            self.assertTrue(all(mark == "\n" or " " <= mark <= "~" for mark in text), path)
            self.assertLessEqual(max(len(line) for line in text.split("\n")), 120, path)
            self.assertIsNone(BARRED_WORDS.search(text), path)
        for path, tree in trees():
            for node in ast.walk(tree):
                if isinstance(node, ast.FunctionDef):
                    self.assertLessEqual(node.end_lineno - node.lineno + 1, 40, (path, node.name))

    def test_imports_name_the_defining_file_and_make_no_circle(self):
        defined = {}
        needs = {}
        for path, tree in trees():
            module = "anyvalues." + path.stem
            defined[module] = [name for node in tree.body for name, _ in bound_names(node)]
            needs[module] = []
        for path, tree in trees():
            for node in ast.walk(tree):
                if isinstance(node, ast.ImportFrom):
                    self.assertIn(node, tree.body, path)
                    self.assertEqual(node.level, 0)
                    self.assertIn(node.module, defined, path)
                    needs["anyvalues." + path.stem].append(node.module)
                    for name in node.names:
                        self.assertIn(name.name, defined[node.module], path)
                        self.assertIsNone(name.asname)
        while needs:
            free = [module for module in needs if not set(needs[module]) & set(needs)]
            self.assertTrue(free, needs)
            for module in free:
                del needs[module]

    def test_statements_and_values(self):
        for path, tree in trees():
            for node in ast.walk(tree):
                where = (path.name, getattr(node, "lineno", None))
                self.assertNotIsInstance(node, BARRED_NODES, where)
                self.assertFalse(getattr(node, "decorator_list", []), where)
                if isinstance(node, ast.Constant):
                    self.assertNotIsInstance(node.value, (float, complex, bytes), where)
                    if isinstance(node.value, str):
                        self.assertNotIn("%", node.value, where)
                if isinstance(node, ast.Compare) and any(isinstance(op, (ast.Is, ast.IsNot)) for op in node.ops):
                    self.assertIn(getattr(node.comparators[-1], "value", "no"), (None, True, False), where)

    def test_names(self):
        for path, tree in trees():
            imported = {name.name for node in tree.body if isinstance(node, ast.ImportFrom) for name in node.names}
            for name, line in bound_names(tree):
                where = (path.name, line, name)
                if name == "__init__":
                    continue
                self.assertFalse(hasattr(builtins, name), where)
                self.assertNotIn(name, BARRED_NAMES, where)
                self.assertNotIn(name, imported, where)
                self.assertFalse(name.startswith("__"), where)
            for node in ast.walk(tree):
                if isinstance(node, ast.Name) and isinstance(node.ctx, ast.Load):
                    self.assertTrue(not hasattr(builtins, node.id) or node.id in ALLOWED_BUILTINS, (path.name, node.id))
                    self.assertNotEqual(node.id, "_", (path.name, node.lineno))

    def test_methods(self):
        own = {node.name for _, tree in trees() for cls in ast.walk(tree) if isinstance(cls, ast.ClassDef)
               for node in cls.body if isinstance(node, ast.FunctionDef)}
        for path, tree in trees():
            for node in ast.walk(tree):
                if isinstance(node, ast.Call) and isinstance(node.func, ast.Attribute):
                    self.assertIn(node.func.attr, ALLOWED_METHODS | own, (path.name, node.lineno))

    def test_each_name_is_bound_once_at_module_level(self):
        for path, tree in trees():
            found = []
            for node in tree.body:
                self.assertIsInstance(
                    node, (ast.Expr, ast.ImportFrom, ast.FunctionDef, ast.ClassDef, ast.Assign), path
                )
                if isinstance(node, ast.ImportFrom):
                    found.extend(name.name for name in node.names)
                elif isinstance(node, (ast.FunctionDef, ast.ClassDef)):
                    found.append(node.name)
                elif isinstance(node, ast.Assign):
                    found.extend(target.id for target in node.targets)
            self.assertEqual(len(found), len(set(found)), path)

    def test_sets_are_not_kept_or_iterated(self):
        for path, tree in trees():
            parents = {child: node for node in ast.walk(tree) for child in ast.iter_child_nodes(node)}
            for node in ast.walk(tree):
                called = isinstance(node, ast.Call) and getattr(node.func, "id", None) == "set"
                if called or isinstance(node, (ast.Set, ast.SetComp)):
                    above = parents[node]
                    self.assertIsInstance(above, ast.Call, (path.name, node.lineno))
                    self.assertIn(getattr(above.func, "id", None), ("sorted", "len"), (path.name, node.lineno))


if __name__ == "__main__":
    unittest.main()
