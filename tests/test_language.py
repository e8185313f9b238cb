"""Those of the language's rules that a look at a file's tree can tell."""

import ast
import builtins
import pathlib
import unittest

PACKAGE = pathlib.Path(__file__).resolve().parent.parent / "kernelstack"
FILES = sorted(PACKAGE.glob("*.py"))

BUILTINS = set("""
    len range enumerate zip min max sum abs sorted reversed int str bool bytes list tuple dict set frozenset isinstance
    ord repr any all divmod pow getattr hasattr setattr iter next map type super property staticmethod classmethod
    Exception ValueError TypeError KeyError IndexError LookupError ZeroDivisionError ArithmeticError OverflowError
    RuntimeError NotImplementedError AttributeError StopIteration NotImplemented
""".split())

STATEMENTS = (ast.Assign, ast.AugAssign, ast.AnnAssign, ast.If, ast.While, ast.For, ast.Return, ast.Break, ast.Continue,
              ast.Pass, ast.Raise, ast.Assert, ast.Delete, ast.Nonlocal, ast.Match, ast.With, ast.Try, ast.Expr,
              ast.Import, ast.ImportFrom, ast.FunctionDef, ast.ClassDef)

BARRED = set("""
    mro elements open input law version_info with_traceback add_note register attrgetter breakpoint builtins compile
    copyright credits delattr dir eval exec exit gc globals help id importlib license locals methodcaller os quit vars
""".split())


def named(node):
    """Return the name that a node gives to something, None if it gives none."""
    if isinstance(node, (ast.FunctionDef, ast.ClassDef)):
        return node.name
    if isinstance(node, ast.Name) and isinstance(node.ctx, ast.Store):
        return node.id
    return node.arg if isinstance(node, ast.arg) else None


def is_plain(node):
    """Return True if a module-level value is plain."""
    allowed = (ast.Constant, ast.List, ast.Tuple, ast.Dict, ast.UnaryOp, ast.BinOp, ast.Name, ast.Load, ast.USub,
               ast.operator)
    return all(isinstance(inner, allowed) for inner in ast.walk(node))


class TestLanguage(unittest.TestCase):

    def each(self):
        """Return (file's name, text, tree) rows of the package's files."""
        return [(path.name, path.read_text(encoding="utf-8"), ast.parse(path.read_text(encoding="utf-8")))
                for path in FILES]

    def test_the_folder_holds_plain_files_alone(self):
        found = [path for path in PACKAGE.iterdir() if path.name != "__pycache__"]
        self.assertIn(PACKAGE / "__init__.py", found)
        for path in found:
            self.assertTrue(path.is_file() and path.suffix == ".py", path)
            self.assertTrue(path.stem.replace("_", "").isalnum() and path.name == path.name.lower(), path)

    def test_characters_and_sizes(self):
        for name, text, tree in self.each():
            self.assertTrue(all(" " <= sign <= "~" or sign == "\n" for sign in text), name)
            self.assertLessEqual(len(text.splitlines()), 399, name)
            self.assertLessEqual(max((len(line) for line in text.splitlines()), default=0), 120, name)
            for node in ast.walk(tree):
                if isinstance(node, ast.FunctionDef):
                    self.assertLessEqual(node.end_lineno - node.lineno + 1, 40, (name, node.name))

    def test_statements(self):
        for name, _, tree in self.each():
            for node in ast.walk(tree):
                if isinstance(node, ast.stmt):
                    self.assertIsInstance(node, STATEMENTS, (name, node.lineno))
                if isinstance(node, ast.Constant):
                    self.assertNotIsInstance(node.value, (float, complex), (name, node.lineno))
                if isinstance(node, ast.BinOp):
                    self.assertNotIsInstance(node.op, (ast.Div, ast.MatMult), (name, node.lineno))

    def test_module_level(self):
        for name, _, tree in self.each():
            rows = tree.body[1:] if ast.get_docstring(tree) else tree.body
            bound = [row.name for row in rows if isinstance(row, (ast.FunctionDef, ast.ClassDef))]
            for row in rows:
                self.assertIsInstance(row, (ast.ImportFrom, ast.FunctionDef, ast.ClassDef, ast.Assign), name)
                if isinstance(row, ast.Assign):
                    self.assertTrue(len(row.targets) == 1 and isinstance(row.targets[0], ast.Name), name)
                    self.assertTrue(is_plain(row.value), (name, row.lineno))
                    bound.append(row.targets[0].id)
                if isinstance(row, ast.ImportFrom):
                    bound.extend(alias.asname or alias.name for alias in row.names)
            self.assertEqual(sorted(bound), sorted(set(bound)), name)

    def test_imports(self):
        imported = {}
        for name, _, tree in self.each():
            for node in ast.walk(tree):
                if isinstance(node, ast.ImportFrom) and node.module.startswith("kernelstack."):
                    self.assertIn(node, tree.body, name)
                    source = PACKAGE / (node.module.partition(".")[2] + ".py")
                    imported.setdefault(name, []).append(source.name)
                    told = {inner.name for inner in ast.parse(source.read_text()).body if hasattr(inner, "name")}
                    told |= {named(target) for inner in ast.parse(source.read_text()).body
                             if isinstance(inner, ast.Assign) for target in inner.targets}
                    for alias in node.names:
                        self.assertIn(alias.name, told, name)
                elif isinstance(node, (ast.Import, ast.ImportFrom)):
                    self.assertIn(getattr(node, "module", None), ("heapq", "math", "itertools", "collections"), name)
        while imported:
            free = [name for name, sources in imported.items() if not any(source in imported for source in sources)]
            self.assertTrue(free, "files import each other")
            for name in free:
                del imported[name]

    def test_names(self):
        for name, _, tree in self.each():
            for node in ast.walk(tree):
                given = named(node)
                if given is not None and not given.startswith("__"):
                    self.assertFalse(given in BARRED or hasattr(builtins, given), (name, given))
                if isinstance(node, ast.Name) and isinstance(node.ctx, ast.Load) and hasattr(builtins, node.id):
                    self.assertIn(node.id, BUILTINS, (name, node.lineno))
                if isinstance(node, ast.Name) and node.id == "_":
                    self.assertIsInstance(node.ctx, ast.Store, (name, node.lineno))

    def test_methods_and_attributes_have_other_names(self):
        methods, attributes = set(), set()
        for _, _, tree in self.each():
            for node in ast.walk(tree):
                if isinstance(node, ast.ClassDef):
                    methods.update(inner.name for inner in node.body if isinstance(inner, ast.FunctionDef))
                if isinstance(node, ast.Attribute) and isinstance(node.ctx, ast.Store):
                    attributes.add(node.attr)
        self.assertEqual(methods & attributes, set())
        self.assertFalse((methods | attributes) & BARRED)

    def test_imports_are_used_and_keep_their_names(self):
        for name, _, tree in self.each():
            imported = {alias.asname or alias.name for node in tree.body if isinstance(node, ast.ImportFrom)
                        for alias in node.names}
            used = {node.id for node in ast.walk(tree) if isinstance(node, ast.Name)}
            self.assertEqual(imported - used, set(), name)
            imported |= {node.name for node in tree.body if isinstance(node, ast.ClassDef)}
            for node in ast.walk(tree):
                given = named(node)
                if given is not None and not isinstance(node, ast.ClassDef):
                    self.assertNotIn(given, imported, name)

    def test_everything_tells_what_it_is_for(self):
        for name, _, tree in self.each():
            self.assertTrue(ast.get_docstring(tree), name)
            for node in tree.body:
                if isinstance(node, (ast.FunctionDef, ast.ClassDef)):
                    self.assertTrue(ast.get_docstring(node), (name, node.name))


if __name__ == "__main__":
    unittest.main()
