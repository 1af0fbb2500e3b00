"""The package's files keep to the rules of the language: what of them can be read off the source."""

import ast
import builtins
import os
import re
import unittest

PACKAGE = os.path.join(os.path.dirname(os.path.dirname(os.path.abspath(__file__))), "tapesweep")

BUILTINS = set("""len range enumerate zip min max sum abs sorted reversed int str bool list tuple dict set frozenset
    isinstance ord repr any all divmod Exception ValueError TypeError KeyError IndexError LookupError
    ZeroDivisionError ArithmeticError OverflowError RuntimeError NotImplementedError AttributeError
    StopIteration""".split())

METHODS = set("""append clear copy count endswith extend find get index insert isalnum isalpha isdigit islower isspace
    isupper items join keys ljust lower lstrip partition pop remove replace reverse rfind rjust rpartition rsplit
    rstrip setdefault split splitlines startswith strip update upper values zfill bit_length""".split())

NODES = set("""Module Expr Constant ImportFrom alias FunctionDef ClassDef arguments arg Assign AugAssign If While For
    Return Break Continue Pass Raise Try ExceptHandler Call Attribute Subscript Slice Name Load Store List Tuple Dict
    BinOp UnaryOp BoolOp Compare IfExp ListComp comprehension keyword And Or Not USub Add Sub Mult FloorDiv Mod Pow
    Eq NotEq Lt LtE Gt GtE Is IsNot In NotIn""".split())

WORDS = set("""type typing typing_extensions enum Enum IntEnum StrEnum Flag IntFlag Generic Protocol ABC ABCMeta
    namedtuple NamedTuple TypedDict TYPE_CHECKING abstractmethod""".split())

NOT_USED = set("""register mro elements open input version_info with_traceback add_note format format_map attrgetter
    breakpoint builtins compile copyright credits delattr dir eval exec exit gc getattr globals hasattr help id
    importlib license locals methodcaller os quit setattr super type vars sys""".split())

PYTHONS_OWN = set(name for name in dir(builtins) if not name.startswith("_"))

# What Python's own values have as methods or values.
OWN_VALUES = set(name for kind in (str, int, list, dict, set, bytes, tuple) for name in dir(kind))


def sources():
    for name in sorted(os.listdir(PACKAGE)):
        if name != "__pycache__":
            with open(os.path.join(PACKAGE, name), encoding="utf-8") as file:
                yield name, file.read()


def bound_names(tree):
    """Every parameter and every name that is assigned within a function."""
    for node in ast.walk(tree):
        if isinstance(node, ast.FunctionDef):
            for inner in ast.walk(node):
                if isinstance(inner, ast.arg):
                    yield inner.arg, inner.lineno
                if isinstance(inner, ast.Name) and isinstance(inner.ctx, ast.Store):
                    yield inner.id, inner.lineno


class Language(unittest.TestCase):
    def each(self):
        return [(name, text, ast.parse(text)) for name, text in sources()]

    def test_files(self):
        names = [name for name, text in sources()]
        self.assertIn("__init__.py", names)
        self.assertIn("desk.py", names)
        for name in names:
            self.assertRegex(name, r"^([a-z][a-z0-9_]*|__init__)\.py$")
            self.assertNotIn(name[:-3], PYTHONS_OWN)
            self.assertNotRegex(name, r"^(test|site|conftest|usercustomize)")

    def test_signs_and_sizes(self):
        for name, text, tree in self.each():
            self.assertRegex(text, r"\A[ -~\n]*\Z")
            rows = text.split("\n")
            self.assertLessEqual(len(rows), 400)
            self.assertLessEqual(max(len(row) for row in rows), 120)
            for node in ast.walk(tree):
                if isinstance(node, ast.FunctionDef):
                    self.assertLessEqual(node.end_lineno - node.lineno + 1, 40, node.name)

    def test_words(self):
        for name, text, tree in self.each():
            found = set(re.findall(r"[A-Za-z0-9_]+", text))
            self.assertEqual(found & WORDS, set())
            self.assertNotRegex(text, "dataclass|overload|contextmanager")

    def test_kinds_of_nodes(self):
        for name, text, tree in self.each():
            for node in ast.walk(tree):
                self.assertIn(node.__class__.__name__, NODES, getattr(node, "lineno", 0))
                if isinstance(node, ast.Assign):
                    self.assertEqual(len(node.targets), 1)
                if isinstance(node, ast.Constant):
                    self.assertIsInstance(node.value, (int, str, type(None)))
                if isinstance(node, (ast.FunctionDef, ast.ClassDef)):
                    self.assertEqual(node.decorator_list, [])
                if isinstance(node, ast.arg):
                    self.assertIsNone(node.annotation)
                if isinstance(node, (ast.For, ast.While)):
                    self.assertEqual(node.orelse, [])

    def test_names(self):
        for name, text, tree in self.each():
            known = set(bound for bound, row in bound_names(tree))
            known.update(self.top_names(tree))
            for node in ast.walk(tree):
                if isinstance(node, ast.Name):
                    self.assertNotIn(node.id, NOT_USED)
                    self.assertRegex(node.id, "^[A-Za-z]")
                    self.assertTrue(node.id in known or node.id in BUILTINS, node.id)

    def test_each_top_name_once(self):
        for name, text, tree in self.each():
            names = self.top_names(tree)
            self.assertEqual(len(names), len(set(names)))

    def test_locals_hide_nothing(self):
        for name, text, tree in self.each():
            top = set(self.top_names(tree))
            for bound, row in bound_names(tree):
                self.assertNotIn(bound, top, row)
                self.assertNotIn(bound, PYTHONS_OWN, row)

    def test_imports(self):
        drawn = {}
        for name, text, tree in self.each():
            drawn[name] = []
            for node in ast.walk(tree):
                if isinstance(node, ast.ImportFrom):
                    self.assertEqual(node.level, 0)
                    self.assertTrue(node.module.startswith("tapesweep."))
                    drawn[name].append(node.module[len("tapesweep."):] + ".py")
        while drawn:
            free = [name for name in drawn if not any(other in drawn for other in drawn[name])]
            self.assertNotEqual(free, [], "files that draw from one another: %r" % (sorted(drawn),))
            for name in free:
                drawn.pop(name)

    def test_attributes(self):
        methods, kept = set(), set()
        for name, text, tree in self.each():
            for node in ast.walk(tree):
                if isinstance(node, ast.ClassDef):
                    methods.update(inner.name for inner in node.body if isinstance(inner, ast.FunctionDef))
                if isinstance(node, ast.Attribute) and isinstance(node.ctx, ast.Store):
                    kept.add(node.attr)
        self.assertEqual(methods & kept, set())
        self.assertEqual((methods - {"__init__"} | kept) & OWN_VALUES, set())
        for name, text, tree in self.each():
            for node in ast.walk(tree):
                if isinstance(node, ast.Attribute):
                    self.assertIn(node.attr, methods | kept | METHODS)

    def test_is_beside_none_alone(self):
        for name, text, tree in self.each():
            for node in ast.walk(tree):
                if isinstance(node, ast.Compare):
                    for sign, side in zip(node.ops, node.comparators):
                        if isinstance(sign, (ast.Is, ast.IsNot)):
                            self.assertIsInstance(side, ast.Constant)
                            self.assertIn(side.value, (None, True, False))

    def top_names(self, tree):
        names = []
        for node in tree.body:
            if isinstance(node, ast.ImportFrom):
                names.extend(alias.asname or alias.name for alias in node.names)
            elif isinstance(node, ast.Assign):
                names.append(node.targets[0].id)
            elif isinstance(node, (ast.FunctionDef, ast.ClassDef)):
                names.append(node.name)
            else:
                self.assertIsInstance(node, ast.Expr)
                self.assertIsInstance(node.value, ast.Constant)
        return names


if __name__ == "__main__":
    unittest.main()
