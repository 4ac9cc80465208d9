"""The plain ones of the rules by which the files of the package are written."""

import ast
import builtins
import pathlib
import re
import unittest

PACKAGE = pathlib.Path(__file__).resolve().parent.parent / "linkedfaults"
LIBRARY = {"heapq": {"heappush", "heappop", "heapify", "heapreplace", "heappushpop"},
           "math": {"gcd", "lcm", "isqrt", "comb", "perm", "factorial"}}
BUILTINS = set("""len range enumerate zip min max sum abs sorted reversed int str bool bytes list tuple dict set
    frozenset isinstance ord repr any all divmod map iter next super property staticmethod classmethod Exception
    ValueError TypeError KeyError IndexError LookupError ZeroDivisionError ArithmeticError OverflowError RuntimeError
    NotImplementedError AttributeError StopIteration NotImplemented""".split())
SPECIAL = set("init eq repr str len enter exit call iter lt le gt ge ne add sub mul floordiv mod pow and or xor lshift "
              "rshift neg pos invert abs bool contains getitem setitem".split())
BARRED = """register mro elements open input law version_info with_traceback add_note attrgetter breakpoint builtins
    compile copyright credits delattr dir eval exec exit gc getattr globals hasattr help id importlib license locals
    methodcaller os quit setattr type vars sys typing enum Enum Generic Protocol ABC namedtuple""".split()
NEVER_CAUGHT = {"BaseException", "Exception", "TypeError", "ArithmeticError", "OverflowError", "RuntimeError",
                "NotImplementedError", "AttributeError"}


def is_builtin(name):
    """Whether a name is one of Python's own; doctest leaves _ among them."""
    return name != "_" and hasattr(builtins, name)


def files():
    return sorted(PACKAGE.rglob("*.py"))


def trees():
    return [(path.name, ast.parse(path.read_text())) for path in files()]


def nodes(kind):
    return [(name, node) for name, tree in trees() for node in ast.walk(tree) if isinstance(node, kind)]


def where(name, node):
    return f"{name}, line {node.lineno}"


def bound_in(function):
    """The parameters, variables and nested functions of a function."""
    told = {part.arg for part in ast.walk(function.args) if isinstance(part, ast.arg)}
    for part in ast.walk(function):
        if isinstance(part, ast.Name) and isinstance(part.ctx, ast.Store):
            told.add(part.id)
        if isinstance(part, ast.FunctionDef) and part is not function:
            told.add(part.name)
    return told


class LanguageTest(unittest.TestCase):

    def test_files_and_signs(self):
        self.assertTrue((PACKAGE / "__init__.py").exists())
        for path in PACKAGE.rglob("*"):
            if "__pycache__" not in path.parts and not path.is_dir():
                self.assertRegex(path.name, r"\A(__init__|[a-z][a-z0-9_]*)\.py\Z")
                self.assertFalse(path.stem != "__init__" and is_builtin(path.stem), path)
                self.assertRegex(path.read_bytes().decode("latin-1"), r"\A[ -~\n]*\Z", path)

    def test_sizes(self):
        for path in files():
            lines = path.read_text().splitlines()
            self.assertLess(len(lines), 400, path)
            self.assertLessEqual(max(map(len, lines)), 120, path)
        for name, node in nodes(ast.FunctionDef):
            self.assertLessEqual(node.end_lineno - node.lineno + 1, 40, where(name, node))

    def test_imports(self):
        self.assertEqual(nodes(ast.Import), [])
        for name, node in nodes(ast.ImportFrom):
            if node.module in LIBRARY:
                self.assertLessEqual({part.name for part in node.names}, LIBRARY[node.module], where(name, node))
            else:
                file = PACKAGE / (node.module.removeprefix("linkedfaults.") + ".py")
                self.assertTrue(node.module.startswith("linkedfaults.") and file.exists(), where(name, node))
                defined = {part.name for part in ast.parse(file.read_text()).body
                           if isinstance(part, (ast.FunctionDef, ast.ClassDef))}
                self.assertLessEqual({part.name for part in node.names}, defined, where(name, node))

    def test_module_level(self):
        for name, tree in trees():
            self.assertIsNotNone(ast.get_docstring(tree), name)
            for node in tree.body[1:]:
                allowed = (ast.ImportFrom, ast.FunctionDef, ast.ClassDef, ast.Assign)
                self.assertIsInstance(node, allowed, where(name, node))

    def test_classes_and_decorators(self):
        for name, node in nodes((ast.FunctionDef, ast.ClassDef)):
            for part in node.decorator_list:
                self.assertIn(ast.unparse(part), ("staticmethod", "classmethod", "property"), where(name, node))
            if node.name.startswith("__"):
                self.assertIn(node.name.strip("_"), SPECIAL, where(name, node))

    def test_statements_and_values(self):
        barred = (ast.Global, ast.AsyncFunctionDef, ast.AsyncFor, ast.AsyncWith, ast.Await, ast.GeneratorExp)
        self.assertEqual([where(name, node) for name, node in nodes(barred)], [])
        self.assertEqual([name for name, _ in nodes(ast.Div)], [])
        for name, node in nodes(ast.ExceptHandler):
            self.assertIsNotNone(node.type, where(name, node))
            caught = {part.id for part in ast.walk(node.type) if isinstance(part, ast.Name)}
            self.assertEqual(caught & NEVER_CAUGHT, set(), where(name, node))
        for name, node in nodes(ast.Constant):
            self.assertNotIsInstance(node.value, (float, complex), where(name, node))
            if isinstance(node.value, str):
                self.assertNotIn("%", node.value, where(name, node))
        for name, node in nodes(ast.Compare):
            if any(isinstance(sign, (ast.Is, ast.IsNot)) for sign in node.ops):
                self.assertIn(ast.unparse(node.comparators[-1]), ("None", "True", "False"), where(name, node))

    def test_builtins(self):
        for name, node in nodes(ast.Name):
            if is_builtin(node.id):
                self.assertIn(node.id, BUILTINS, where(name, node))
                self.assertIsInstance(node.ctx, ast.Load, where(name, node))
        for name, node in nodes(ast.Attribute):
            self.assertNotIn(node.attr, ("sort", "format", "encode", "decode"), where(name, node))

    def test_names(self):
        for name, tree in trees():
            taken = {part.name for part in ast.walk(tree) if isinstance(part, (ast.ClassDef, ast.alias))}
            for node in ast.walk(tree):
                if isinstance(node, ast.FunctionDef):
                    shadowing = {told for told in bound_in(node) if told in taken or is_builtin(told)}
                    self.assertEqual(shadowing, set(), where(name, node))
        for path in files():
            for word in BARRED:
                self.assertIsNone(re.search(rf"\b{word}\b", path.read_text()), (path, word))


if __name__ == "__main__":
    unittest.main()
