"""The package keeps to the subset of Python in which it is written (the rules that can be read off the code)."""

import ast
import builtins
import pathlib
import unittest

FOLDER = pathlib.Path(__file__).resolve().parent.parent / "everyend"
FILES = sorted(FOLDER.glob("*.py"))
TREES = {path.stem: ast.parse(path.read_text()) for path in FILES}
NODES = {name: list(ast.walk(tree)) for name, tree in TREES.items()}

BUILTINS = set("""len range enumerate zip min max sum abs sorted reversed int str bool bytes list tuple dict set
    isinstance ord repr any all divmod ValueError property""".split())
METHODS = set("""append clear copy count endswith extend find get index insert isalnum isalpha isdigit islower isspace
    isupper items join keys ljust lower lstrip partition pop remove replace reverse rfind rjust rpartition rsplit rstrip
    setdefault split splitlines startswith strip update upper values zfill bit_length isascii""".split())
FORBIDDEN = (ast.AsyncFunctionDef, ast.Global, ast.Nonlocal, ast.Await, ast.GeneratorExp, ast.Yield, ast.YieldFrom,
             ast.AnnAssign, ast.Div, ast.MatMult, ast.NamedExpr, ast.SetComp, ast.With, ast.Match, ast.Lambda)
WORDS = ("type", "enum", "Flag", "Generic", "Protocol", "ABC", "typing")


def named(node):
    """The names that a node binds."""
    if isinstance(node, ast.Name) and isinstance(node.ctx, ast.Store):
        return [node.id]
    if isinstance(node, (ast.FunctionDef, ast.ClassDef)):
        return [node.name]
    if isinstance(node, ast.arg):
        return [node.arg]
    if isinstance(node, ast.alias):
        return [node.name]
    return []


class Language(unittest.TestCase):
    def all_of(self, kind):
        for name, nodes in NODES.items():
            for node in nodes:
                if isinstance(node, kind):
                    yield f"{name}:{getattr(node, 'lineno', 0)}", node

    def test_files(self):
        self.assertIn(FOLDER / "__init__.py", FILES)
        others = [path.name for path in FOLDER.iterdir() if path not in FILES and path.name != "__pycache__"]
        self.assertEqual(others, [])
        for path in FILES:
            lines = path.read_text().split("\n")
            self.assertLessEqual(len(lines), 399, path.name)
            for at, line in enumerate(lines, 1):
                self.assertLessEqual(len(line), 120, (path.name, at))
                self.assertTrue(all(" " <= sign <= "~" for sign in line), (path.name, at))

    def test_functions_are_short_and_told(self):
        for where, node in self.all_of(ast.FunctionDef):
            self.assertLessEqual(node.end_lineno - node.lineno + 1, 40, where)
            if node.name not in ("__init__", "__eq__"):
                self.assertTrue(ast.get_docstring(node), where)

    def test_no_other_constructs(self):
        for where, node in self.all_of(FORBIDDEN):
            self.fail((where, node))
        for where, node in self.all_of(ast.Constant):
            self.assertNotIsInstance(node.value, (float, complex), where)
        for where, node in self.all_of(ast.Compare):
            for sign, other in zip(node.ops, node.comparators):
                if isinstance(sign, (ast.Is, ast.IsNot)):
                    self.assertIn(getattr(other, "value", 0), (None, True, False), where)

    def test_module_level(self):
        for name, tree in TREES.items():
            for node in tree.body:
                told = isinstance(node, ast.Expr) and isinstance(node.value, ast.Constant)
                let = (ast.ImportFrom, ast.FunctionDef, ast.ClassDef, ast.Assign)
                self.assertTrue(told or isinstance(node, let), (name, node))

    def test_imports(self):
        edges = {}
        for name, tree in TREES.items():
            edges[name] = set()
            for node in ast.walk(tree):
                self.assertNotIsInstance(node, ast.Import)
                if isinstance(node, ast.ImportFrom) and node.module == "heapq":
                    self.assertLessEqual({alias.name for alias in node.names}, {"heappush", "heappop"})
                    self.assertEqual([alias.asname for alias in node.names], [None] * len(node.names))
                elif isinstance(node, ast.ImportFrom):
                    package, _, module = node.module.partition(".")
                    self.assertEqual((package, node.level), ("everyend", 0))
                    bound = {one for inner in TREES[module].body for one in named(inner)
                             if isinstance(inner, (ast.FunctionDef, ast.ClassDef))}
                    bound |= {target.id for inner in TREES[module].body if isinstance(inner, ast.Assign)
                              for target in inner.targets}
                    for alias in node.names:
                        self.assertIn(alias.name, bound, (name, module))
                        self.assertIsNone(alias.asname)
                    edges[name].add(module)
        for _ in edges:
            edges = {name: set().union(told, *(edges[one] for one in told)) for name, told in edges.items()}
        for name, told in edges.items():
            self.assertNotIn(name, told)

    def test_names(self):
        for name, nodes in NODES.items():
            top = {one for node in TREES[name].body for one in named(node) if isinstance(node, ast.ClassDef)}
            top |= {alias.name for node in nodes if isinstance(node, ast.ImportFrom) for alias in node.names}
            methods = {inner for node in nodes if isinstance(node, ast.ClassDef) for inner in node.body}
            for node in nodes:
                for one in named(node):
                    if isinstance(node, (ast.ClassDef, ast.alias)):
                        continue
                    if node not in methods:
                        self.assertNotIn(one, dir(builtins), (name, one))
                        self.assertNotIn(one, top, (name, one))

    def test_builtins_and_methods(self):
        own = {node.name for _, node in self.all_of(ast.FunctionDef)}
        for where, node in self.all_of(ast.Name):
            if node.id in dir(builtins):
                self.assertIn(node.id, BUILTINS, where)
        for where, node in self.all_of(ast.Call):
            if isinstance(node.func, ast.Attribute) and node.func.attr != "__init__":
                self.assertIn(node.func.attr, METHODS | own, where)

    def test_strings(self):
        docstrings = {id(node.body[0].value) for _, node in self.all_of((ast.Module, ast.ClassDef, ast.FunctionDef))
                      if ast.get_docstring(node)}
        for where, node in self.all_of(ast.Constant):
            if isinstance(node.value, str) and id(node) not in docstrings:
                self.assertNotIn("%", node.value, where)
                self.assertFalse(set(node.value.split()) & set(WORDS), where)

    def test_generators_and_sets(self):
        """A set stands in len or sorted alone."""
        let = set()
        for _, node in self.all_of(ast.Call):
            if isinstance(node.func, ast.Name) and node.func.id in ("len", "sorted") and len(node.args) == 1:
                let.add(id(node.args[0]))
        for where, node in self.all_of(ast.Call):
            if isinstance(node.func, ast.Name) and node.func.id == "set":
                self.assertIn(id(node), let, where)
        for where, node in self.all_of(ast.Set):
            self.fail(where)


if __name__ == "__main__":
    unittest.main()
