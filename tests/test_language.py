"""The rules for the package's code that a short look at its tree can tell."""

import ast
import builtins
import re
import unittest
from pathlib import Path

ROOT = Path(__file__).resolve().parent.parent / "waitwords"
FILES = sorted(ROOT.rglob("*.py"))
CALLED = set("""len range enumerate zip min max sum abs sorted reversed int str bool list tuple dict set isinstance ord
repr any all divmod ValueError""".split())
# The one method of builtin values whose name the document gives to a method of its own.
GIVEN = {"count"}
METHODS = set("""append clear copy count endswith extend find get index insert isalnum isalpha isdigit islower isspace
isupper items join keys ljust lower lstrip partition pop remove replace reverse rfind rjust rpartition rsplit rstrip
setdefault split splitlines startswith strip update upper values zfill bit_length add discard sort""".split())
DOUBLE = {"__init__", "__eq__", "__len__"}
BARRED = re.compile(r"\b(type|typing|enum|Enum|Generic|Protocol|ABC|namedtuple|register|mro|elements|open|input|law)\b"
                    r"|dataclass|overload|contextmanager|_wall")
NODES = (ast.GeneratorExp, ast.Global, ast.AsyncFunctionDef, ast.Await, ast.Import, ast.Div, ast.JoinedStr, ast.Starred)


def defined_in(tree):
    found = [node.name for node in tree.body if isinstance(node, (ast.FunctionDef, ast.ClassDef))]
    return found + [node.targets[0].id for node in tree.body if isinstance(node, ast.Assign)]


def methods_in(tree):
    return [part.name for node in tree.body if isinstance(node, ast.ClassDef) for part in node.body
            if isinstance(part, ast.FunctionDef)]


def is_property(node):
    marks = getattr(node, "decorator_list", [])
    return [isinstance(mark, ast.Name) and mark.id == "property" for mark in marks] == [True]


def properties_in(tree):
    return [node for node in ast.walk(tree) if isinstance(node, ast.FunctionDef) and is_property(node)]


def docstrings(tree):
    holders = (ast.Module, ast.ClassDef, ast.FunctionDef)
    return [node.body[0].value for node in ast.walk(tree)
            if isinstance(node, holders) and node.body and isinstance(node.body[0], ast.Expr)]


class Language(unittest.TestCase):

    def each_file(self):
        texts = [file.read_text(encoding="utf-8") for file in FILES]
        return [(file, text, ast.parse(text)) for file, text in zip(FILES, texts)]

    def test_files_and_sizes(self):
        others = [file.name for file in ROOT.rglob("*") if file.suffix != ".py" and "__pycache__" not in file.parts]
        self.assertEqual(others, [])
        for file, text, tree in self.each_file():
            self.assertRegex(file.name, r"^[a-z_0-9]+\.py$")
            self.assertTrue(all(sign == "\n" or " " <= sign <= "~" for sign in text))
            self.assertLessEqual(text.count("\n"), 399)
            self.assertLessEqual(max(map(len, text.split("\n"))), 120)
            for node in ast.walk(tree):
                if isinstance(node, ast.FunctionDef):
                    self.assertLessEqual(node.end_lineno - node.lineno + 1, 40, node.name)

    def test_module_level(self):
        for _, _, tree in self.each_file():
            self.assertTrue(ast.get_docstring(tree))
            for node in tree.body[1:]:
                self.assertIsInstance(node, (ast.ImportFrom, ast.FunctionDef, ast.ClassDef, ast.Assign))
            names = defined_in(tree)
            names += [alias.name for node in tree.body if isinstance(node, ast.ImportFrom) for alias in node.names]
            self.assertEqual(len(names), len(set(names)))

    def test_imports(self):
        goes_to = {}
        for file, _, tree in self.each_file():
            goes_to[file.stem] = []
            for node in ast.walk(tree):
                if isinstance(node, ast.ImportFrom):
                    self.assertEqual(node.level, 0)
                    package, stem = node.module.split(".")
                    self.assertEqual(package, "waitwords")
                    goes_to[file.stem].append(stem)
                    there = defined_in(ast.parse((ROOT / f"{stem}.py").read_text(encoding="utf-8")))
                    for alias in node.names:
                        self.assertIn(alias.name, there)
                        self.assertIsNone(alias.asname)
                        used = [part for part in ast.walk(tree) if isinstance(part, ast.Name) and part.id == alias.name]
                        self.assertTrue(used, alias.name)
        while goes_to:
            free = [stem for stem in goes_to if not set(goes_to[stem]) & set(goes_to)]
            self.assertTrue(free, "files import from each other")
            goes_to = {stem: goes_to[stem] for stem in goes_to if stem not in free}

    def test_statements_and_words(self):
        for _, text, tree in self.each_file():
            told = docstrings(tree)
            for node in ast.walk(tree):
                self.assertNotIsInstance(node, NODES)
                if getattr(node, "decorator_list", []):
                    self.assertTrue(is_property(node))
                if isinstance(node, ast.Constant) and node not in told:
                    self.assertNotIsInstance(node.value, float)
                    self.assertNotIn("%", str(node.value))
                    self.assertIsNone(BARRED.search(str(node.value)))
            bare = re.sub(r"(?s)\"\"\".*?\"\"\"|#[^\n]*", "", text)
            self.assertIsNone(BARRED.search(bare))

    def test_names(self):
        own = {name for _, _, tree in self.each_file() for name in methods_in(tree)}
        self.assertFalse(own & METHODS - GIVEN)
        for _, _, tree in self.each_file():
            marks = [mark for node in properties_in(tree) for mark in node.decorator_list]
            imported = {alias.name for node in tree.body if isinstance(node, ast.ImportFrom) for alias in node.names}
            classes = {node.name for node in tree.body if isinstance(node, ast.ClassDef)}
            for node in ast.walk(tree):
                if isinstance(node, ast.Name) and isinstance(node.ctx, ast.Store):
                    self.assert_free(node.id, imported | classes)
                if isinstance(node, ast.arg):
                    self.assert_free(node.arg, imported | classes)
                if isinstance(node, ast.Name) and isinstance(node.ctx, ast.Load) and hasattr(builtins, node.id):
                    self.assertIn(node.id, CALLED | {mark.id for mark in marks if mark is node})
                if isinstance(node, ast.Call) and isinstance(node.func, ast.Attribute):
                    self.assertIn(node.func.attr, METHODS | own)
                    self.assertFalse(node.func.attr in METHODS and node.keywords, node.func.attr)

    def test_attributes(self):
        # An attribute that is read is one that a method gives its own object, or a property.
        nodes = [node for _, _, tree in self.each_file() for node in ast.walk(tree)]
        own = {name for _, _, tree in self.each_file() for name in methods_in(tree)}
        told = {node.name for _, _, tree in self.each_file() for node in properties_in(tree)}
        called = [node.func for node in nodes if isinstance(node, ast.Call)]
        read = [node for node in nodes if isinstance(node, ast.Attribute) and node not in called]
        given = {node.attr for node in read if isinstance(node.ctx, ast.Store)}
        self.assertEqual(told, {"entries", "products", "size", "book", "fork"})
        self.assertFalse(given & own)
        for node in read:
            self.assertIn(node.attr, given | told)
            if isinstance(node.ctx, ast.Store):
                self.assertEqual(node.value.id, "self")

    def test_double_underscore_methods_and_properties(self):
        # They change nothing, and what they return is worked out in one line.
        for _, _, tree in self.each_file():
            nodes = [node for node in ast.walk(tree) if isinstance(node, ast.FunctionDef)]
            for node in nodes:
                if node.name.startswith("__"):
                    self.assertIn(node.name, DOUBLE)
                if node.name in ("__eq__", "__len__") or is_property(node):
                    *said, last = node.body
                    self.assertTrue(all(isinstance(part, ast.Expr) for part in said))
                    self.assertIsInstance(last, ast.Return)
                if node.name == "__len__":
                    self.assertEqual(last.value.func.id, "len")
                if node.name == "__eq__":
                    self.assertEqual(ast.unparse(last.value).split("(")[0], "isinstance")

    def test_handlers_are_of_own_errors(self):
        own = set(defined_in(ast.parse((ROOT / "errors.py").read_text(encoding="utf-8"))))
        for _, _, tree in self.each_file():
            for node in ast.walk(tree):
                if isinstance(node, ast.Try):
                    self.assertFalse(node.finalbody)
                    for handler in node.handlers:
                        self.assertIn(handler.type.id, own)
                        self.assertIsNone(handler.name)
                if isinstance(node, ast.Raise):
                    self.assertIn(node.exc.func.id, own)
                    self.assertIsNone(getattr(node.cause, "value", None))

    def test_lists_and_dicts_at_module_level_are_read_in_place(self):
        held = {}
        for file, _, tree in self.each_file():
            for node in tree.body:
                if isinstance(node, ast.Assign) and isinstance(node.value, (ast.List, ast.Dict)):
                    held[node.targets[0].id] = file.name
        self.assertGreater(len(held), 4)
        for file, _, tree in self.each_file():
            allowed = []
            for node in ast.walk(tree):
                if isinstance(node, ast.Subscript) and isinstance(node.ctx, ast.Load):
                    allowed.append(node.value)
                if isinstance(node, ast.Attribute) and node.attr == "get":
                    allowed.append(node.value)
                if isinstance(node, ast.Compare) and isinstance(node.ops[0], (ast.In, ast.NotIn)):
                    allowed += node.comparators
            for node in ast.walk(tree):
                if isinstance(node, ast.Name) and node.id in held and isinstance(node.ctx, ast.Load):
                    self.assertIn(node, allowed, (file.name, node.id))

    def test_what_the_package_does_without(self):
        for _, _, tree in self.each_file():
            for node in ast.walk(tree):
                self.assertNotIsInstance(node, (ast.Set, ast.SetComp, ast.Lambda, ast.NamedExpr, ast.With,
                                                ast.Match, ast.Yield, ast.YieldFrom))
                if isinstance(node, ast.Delete):
                    self.assertTrue(all(isinstance(target, ast.Subscript) for target in node.targets))

    def assert_free(self, name, taken):
        self.assertRegex(name, r"^(_?[A-Za-z][A-Za-z0-9_]*|_)$")
        self.assertNotIn(name, taken)
        # A doctest that ran in this process leaves a builtin called _.
        self.assertFalse(name != "_" and hasattr(builtins, name), name)


if __name__ == "__main__":
    unittest.main()
