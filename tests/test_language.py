"""The rules of the language that a short look at the files can check."""

import ast
import builtins
import pathlib
import unittest
import warnings

PACKAGE = pathlib.Path(__file__).resolve().parent.parent / "fogfleet"
LIBRARY = {
    "heapq": {"heappush", "heappop", "heapify", "heapreplace", "heappushpop"},
    "math": {"gcd", "lcm", "isqrt", "comb", "perm", "factorial"},
    "itertools": {"product", "combinations", "permutations", "chain", "accumulate", "pairwise",
                  "islice", "zip_longest"},
    "collections": {"defaultdict"},
}
BUILTINS = set(
    "len range enumerate zip min max sum abs sorted reversed int str bool list tuple dict set "
    "frozenset isinstance ord repr any all divmod pow getattr hasattr setattr map iter next super "
    "property staticmethod classmethod bytes object "
    "Exception ValueError TypeError KeyError IndexError LookupError ZeroDivisionError "
    "ArithmeticError OverflowError RuntimeError NotImplementedError AttributeError StopIteration "
    "NotImplemented".split())
BARRED = (ast.Global, ast.AsyncFunctionDef, ast.AsyncFor, ast.AsyncWith, ast.Await, ast.Import,
          ast.Div, ast.MatMult, ast.TryStar)
METHODS = set(
    "__init__ __eq__ __repr__ __str__ __len__ __enter__ __exit__ __call__ __iter__ "
    "__contains__".split())


def files():
    return sorted(PACKAGE.rglob("*.py"))


def nodes(kinds):
    for path in files():
        for node in ast.walk(ast.parse(path.read_text())):
            if isinstance(node, kinds):
                yield path.name, node


class LanguageTest(unittest.TestCase):
    def test_the_folder_contains_only_python_files(self):
        for path in PACKAGE.iterdir():
            if path.name != "__pycache__":
                self.assertRegex(path.name, "^[a-z_][a-z0-9_]*[.]py$")
        self.assertTrue((PACKAGE / "__init__.py").exists())

    def test_characters_and_sizes(self):
        for path in files():
            data = path.read_bytes()
            self.assertTrue(all(32 <= sign <= 126 or sign == 10 for sign in data), path.name)
            lines = data.decode().split("\n")
            self.assertLessEqual(len(lines), 400, path.name)
            self.assertLessEqual(max(len(line) for line in lines), 120, path.name)

    def test_functions_have_at_most_40_lines(self):
        for name, node in nodes(ast.FunctionDef):
            self.assertLessEqual(node.end_lineno - node.lineno + 1, 40, (name, node.name))

    def test_python_gives_no_warning(self):
        with warnings.catch_warnings():
            warnings.simplefilter("error")
            for path in files():
                compile(path.read_text(), path.name, "exec")

    def test_imports(self):
        for name, node in nodes(ast.ImportFrom):
            words = {alias.name for alias in node.names}
            self.assertEqual(node.level, 0, name)
            if node.module in LIBRARY:
                self.assertLessEqual(words, LIBRARY[node.module], name)
                continue
            self.assertRegex(node.module, "^fogfleet[.][a-z]+$", name)
            source = PACKAGE / (node.module.split(".")[1] + ".py")
            self.assertLessEqual(words, self.defined(source), name)

    def defined(self, path):
        """The names that a file defines itself."""
        found = set()
        for node in ast.parse(path.read_text()).body:
            if isinstance(node, (ast.FunctionDef, ast.ClassDef)):
                found.add(node.name)
            if isinstance(node, ast.Assign):
                found |= {target.id for target in node.targets}
        return found

    def test_statements_and_values_that_are_not_used(self):
        for name, node in nodes(BARRED):
            self.fail((name, node.lineno, node))
        for name, node in nodes(ast.Constant):
            kinds = (int, str, bytes, bool, type(None))
            self.assertIsInstance(node.value, kinds, (name, node.lineno))
            if isinstance(node.value, str):
                self.assertNotIn("%", node.value, (name, node.lineno))

    def test_builtins(self):
        for name, node in nodes(ast.Name):
            if hasattr(builtins, node.id):
                self.assertIn(node.id, BUILTINS, (name, node.lineno))
                self.assertIsInstance(node.ctx, ast.Load, (name, node.lineno))
        for name, node in nodes(ast.arg):
            self.assertFalse(hasattr(builtins, node.arg), (name, node.lineno))

    def test_no_other_name_is_that_of_an_import_or_a_class(self):
        for path in files():
            tree = ast.parse(path.read_text())
            barred = {alias.name for node in tree.body if isinstance(node, ast.ImportFrom)
                      for alias in node.names}
            classes = [node.name for node in tree.body if isinstance(node, ast.ClassDef)]
            functions = [node.name for node in tree.body if isinstance(node, ast.FunctionDef)]
            self.assertFalse(barred & set(classes + functions), path.name)
            barred |= set(classes)
            for node in ast.walk(tree):
                if isinstance(node, ast.arg):
                    self.assertNotIn(node.arg, barred, (path.name, node.lineno))
                if isinstance(node, ast.Name) and isinstance(node.ctx, ast.Store):
                    self.assertNotIn(node.id, barred, (path.name, node.lineno))

    def test_imports_are_used_and_go_in_no_circle(self):
        above = {}
        for path in files():
            tree = ast.parse(path.read_text())
            used = {node.id for node in ast.walk(tree) if isinstance(node, ast.Name)}
            above[path.stem] = set()
            for node in tree.body:
                if isinstance(node, ast.ImportFrom):
                    self.assertLessEqual({alias.name for alias in node.names}, used, path.name)
                    above[path.stem].add(node.module.split(".")[-1])
        while above:
            # In each round the files go that import nothing that is still there.
            rest = {name: found & set(above) for name, found in above.items() if found & set(above)}
            self.assertLess(len(rest), len(above), rest)
            above = rest

    def test_no_name_of_a_method_is_that_of_an_attribute(self):
        methods = {node.name for _, owner in nodes(ast.ClassDef) for node in owner.body
                   if isinstance(node, ast.FunctionDef)}
        stored = {node.attr for _, node in nodes(ast.Attribute) if isinstance(node.ctx, ast.Store)}
        self.assertFalse(methods & stored)

    def test_sets_are_written_only_where_they_may_stand(self):
        kinds = (ast.SetComp, ast.Set, ast.GeneratorExp)
        for path in files():
            tree = ast.parse(path.read_text())
            right = [part for node in ast.walk(tree) if isinstance(node, ast.Call)
                     and isinstance(node.func, ast.Name) and node.func.id in ("sorted", "len")
                     for part in node.args if isinstance(part, ast.SetComp)]
            for node in ast.walk(tree):
                if isinstance(node, kinds):
                    self.assertIn(node, right, (path.name, node.lineno))

    def test_methods_with_double_underscores(self):
        for name, node in nodes(ast.FunctionDef):
            if node.name.startswith("__"):
                self.assertIn(node.name, METHODS, (name, node.lineno))


if __name__ == "__main__":
    unittest.main()
