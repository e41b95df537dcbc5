"""The plainest rules of the language, read off the files of the package."""

import ast
import builtins
import pathlib
import re
import unittest
import warnings

FOLDER = pathlib.Path(__file__).resolve().parent.parent / "barelybetter"
FILES = sorted(FOLDER.glob("*.py"))

BUILTINS = set(
    "len range enumerate zip min max sum abs sorted reversed int str bool bytes list tuple dict set isinstance ord repr "
    "any all divmod pow iter next ValueError TypeError KeyError property staticmethod classmethod NotImplemented".split())
LIBRARY = {"heapq": {"heappush", "heappop", "heapify"}, "math": {"gcd", "lcm", "isqrt", "comb"}}
BUILTIN_METHODS = set(
    "append clear copy count endswith extend find get index insert isalnum isalpha isdigit islower isspace isupper items "
    "join keys ljust lower lstrip partition pop remove replace reverse rfind rjust rpartition rsplit rstrip setdefault "
    "split splitlines startswith strip update upper values zfill bit_length add discard setter isascii".split())
DUNDERS = set(
    "__init__ __eq__ __len__ __iter__ __contains__ __getitem__ __setitem__ __or__ __and__ __xor__ __sub__ __add__ "
    "__radd__ __mul__ __rmul__ __neg__ __invert__".split())
# What the rules allow in some places only, and the package does without.
BARRED = (
    ast.GeneratorExp, ast.Yield, ast.YieldFrom, ast.Global, ast.Nonlocal, ast.AsyncFunctionDef, ast.Await, ast.With,
    ast.Match, ast.NamedExpr, ast.AnnAssign, ast.Import, ast.Div, ast.MatMult)


def trees():
    for file in FILES:
        yield file, ast.parse(file.read_text(encoding="ascii"))


def nodes(*kinds):
    for file, tree in trees():
        for node in ast.walk(tree):
            if isinstance(node, kinds):
                yield f"{file.name}:{getattr(node, 'lineno', 0)}", node


def bound_names(tree):
    return {node.name for node in tree.body if isinstance(node, (ast.FunctionDef, ast.ClassDef))} | {
        target.id for node in tree.body if isinstance(node, ast.Assign) for target in node.targets}


class LanguageTest(unittest.TestCase):

    def test_files(self):
        for file in FOLDER.iterdir():
            if file.name != "__pycache__":
                self.assertRegex(file.name, r"^[a-z_]+[.]py$")
        for file in FILES:
            text = file.read_bytes()
            self.assertEqual([byte for byte in text if byte != 10 and not 32 <= byte <= 126], [], file.name)
            rows = text.decode().splitlines()
            self.assertLessEqual(len(rows), 399, file.name)
            self.assertEqual([row for row in rows if len(row) > 120], [], file.name)

    def test_no_warnings(self):
        with warnings.catch_warnings():
            warnings.simplefilter("error")
            for file in FILES:
                compile(file.read_text(), file.name, "exec")

    def test_functions_are_short(self):
        for place, node in nodes(ast.FunctionDef):
            self.assertLessEqual(node.end_lineno - node.lineno + 1, 40, place)

    def test_barred_parts(self):
        for place, node in nodes(*BARRED):
            self.fail(f"{place}: {node}")

    def test_imports(self):
        own = {file.stem: bound_names(tree) for file, tree in trees()}
        uses = {}
        for file, tree in trees():
            uses[file.stem] = set()
            for node in ast.walk(tree):
                if not isinstance(node, ast.ImportFrom):
                    continue
                self.assertIn(node, tree.body)
                names = {alias.name for alias in node.names}
                self.assertTrue(all(alias.asname is None for alias in node.names))
                if node.module in LIBRARY:
                    self.assertLessEqual(names, LIBRARY[node.module])
                else:
                    home = node.module.removeprefix("barelybetter.")
                    self.assertLessEqual(names, own[home], file.name)
                    uses[file.stem].add(home)
                read = {one.id for one in ast.walk(tree) if isinstance(one, ast.Name)}
                self.assertLessEqual(names, read, file.name)
        while uses:
            free = [name for name in uses if not uses[name]]
            self.assertTrue(free, f"files that import from each other: {uses}")
            uses = {name: uses[name] - set(free) for name in uses if name not in free}

    def test_module_level(self):
        for file, tree in trees():
            for node in tree.body:
                text = isinstance(node, ast.Expr) and isinstance(node.value, ast.Constant)
                self.assertTrue(text or isinstance(node, (ast.ImportFrom, ast.FunctionDef, ast.ClassDef, ast.Assign)))

    def test_names(self):
        taken = set(dir(builtins)) - {"_"}
        for file, tree in trees():
            upper = bound_names(tree)
            for node in ast.walk(tree):
                if isinstance(node, (ast.FunctionDef, ast.ClassDef)):
                    self.assertTrue(node.name in DUNDERS or re.fullmatch(r"_?[A-Za-z][A-Za-z0-9_]*", node.name))
                    self.assertNotIn(node.name, taken)
                elif isinstance(node, ast.arg):
                    self.assertNotIn(node.arg, taken | upper, file.name)
                elif isinstance(node, ast.Name) and isinstance(node.ctx, ast.Store):
                    self.assertNotIn(node.id, taken, file.name)
                elif isinstance(node, ast.Name) and node.id in taken:
                    self.assertIn(node.id, BUILTINS, file.name)

    def test_no_local_name_is_an_import(self):
        for file, tree in trees():
            imports = {alias.name for node in tree.body if isinstance(node, ast.ImportFrom) for alias in node.names}
            for node in ast.walk(tree):
                if isinstance(node, ast.arg):
                    self.assertNotIn(node.arg, imports, file.name)
                elif isinstance(node, ast.Name) and isinstance(node.ctx, ast.Store):
                    self.assertNotIn(node.id, imports, file.name)

    def test_names_that_are_not_used(self):
        barred = {"register", "mro", "elements", "open", "input", "law", "args", "format", "sort", "keys"}
        for file, tree in trees():
            for node in ast.walk(tree):
                for name in (getattr(node, "name", None), getattr(node, "id", None), getattr(node, "arg", None)):
                    self.assertNotIn(name, barred, file.name)
                    self.assertFalse(str(name).startswith(("_wall", "_lay_", "_law_", "_enum_", "_cm_", "_sre")), name)
                if isinstance(node, ast.Attribute):
                    self.assertNotIn(node.attr, barred, file.name)

    def test_finally_puts_names_only(self):
        for place, node in nodes(ast.Try):
            for one in node.finalbody:
                self.assertTrue(isinstance(one, ast.Assign) and isinstance(one.value, ast.Name), place)
            for one in node.handlers:
                self.assertIsNotNone(one.type, place)

    def test_attributes(self):
        own = {node.name for _, node in nodes(ast.FunctionDef)} | {
            node.attr for _, node in nodes(ast.Attribute) if isinstance(node.ctx, ast.Store)} | {
            target.id for _, node in nodes(ast.ClassDef) for part in node.body if isinstance(part, ast.Assign)
            for target in part.targets}
        for place, node in nodes(ast.Attribute):
            self.assertIn(node.attr, own | BUILTIN_METHODS, place)

    def test_is(self):
        for place, node in nodes(ast.Compare):
            if any(isinstance(sign, (ast.Is, ast.IsNot)) for sign in node.ops):
                side = node.comparators[0]
                self.assertTrue(isinstance(side, ast.Constant) and side.value in (None, True, False), place)

    def test_reversed(self):
        # Classes of the package have `[ ]`, so that it takes only what is plainly no object of theirs.
        for place, node in nodes(ast.Call):
            if isinstance(node.func, ast.Name) and node.func.id == "reversed":
                given = node.args[0]
                named = isinstance(given, ast.Call) and getattr(given.func, "id", None)
                self.assertTrue(named in ("list", "tuple", "sorted", "range") or isinstance(given, (ast.List, ast.Tuple)),
                                place)

    def test_constants(self):
        for place, node in nodes(ast.Constant):
            self.assertNotIsInstance(node.value, (float, complex), place)
            if isinstance(node.value, str):
                self.assertNotIn("%", node.value, place)

    def test_words(self):
        for file in FILES:
            for word in ("(type)", "Meta", "metaclass=", "_wall ", "_WallAttr"):
                self.assertNotIn(word, file.read_text(), file.name)


if __name__ == "__main__":
    unittest.main()
