"""The package keeps to the small part of Python that it is to be written in."""

import ast
import builtins
import re
import unittest
from pathlib import Path

PACKAGE = Path(__file__).resolve().parent.parent / "quarterprice"
BUILT_IN = set("""len range enumerate zip min max sum abs sorted reversed int str bool list tuple dict set frozenset
    isinstance ord repr any all divmod""".split())
METHODS = set("""append clear copy count endswith extend find get index insert isalnum isalpha isdigit islower isspace
    isupper items join keys ljust lower lstrip partition pop remove replace reverse rfind rjust rpartition rsplit rstrip
    setdefault split splitlines startswith strip update upper values zfill bit_length""".split())
NOT_USED = set("""register mro elements open input version_info with_traceback add_note format format_map attrgetter
    breakpoint builtins compile copyright credits delattr dir eval exec exit gc getattr globals hasattr help id
    importlib license locals methodcaller os quit setattr super vars sys print chr""".split())
NO_WORDS = set("""type typing typing_extensions enum Enum IntEnum StrEnum Flag IntFlag Generic Protocol ABC ABCMeta
    namedtuple NamedTuple TypedDict TYPE_CHECKING abstractmethod""".split())
PYTHONS_OWN = {name for kind in (str, int, list, tuple, dict, set, bytes) for name in dir(kind)
               if not name.startswith("__")}
NODES = set("""Module Expr Constant ImportFrom alias FunctionDef arguments arg Return ClassDef Assign AugAssign Name
    Attribute Call keyword Load Store If While For Break Continue Pass IfExp BoolOp And Or UnaryOp Not USub BinOp Add
    Sub Mult FloorDiv Mod Compare Lt LtE Gt GtE Eq NotEq In NotIn Is IsNot List Tuple Dict Subscript Slice ListComp
    comprehension Lambda""".split())


def files():
    return sorted(PACKAGE.glob("**/*.py"))


def trees():
    return [(path.name, ast.parse(path.read_text(encoding="utf-8"))) for path in files()]


def own_names(tree):
    """The names that a file binds itself."""
    names = set()
    for node in ast.walk(tree):
        if isinstance(node, (ast.FunctionDef, ast.ClassDef)):
            names.add(node.name)
        elif isinstance(node, ast.alias):
            names.add(node.name)
        elif isinstance(node, ast.arg):
            names.add(node.arg)
        elif isinstance(node, ast.Name) and isinstance(node.ctx, ast.Store):
            names.add(node.id)
    return names


class LanguageTest(unittest.TestCase):
    def test_files(self):
        for path in PACKAGE.iterdir():
            if path.name != "__pycache__":
                self.assertRegex(path.name, r"^(__init__|[a-z][a-z0-9_]*)\.py$")

    def test_signs_and_sizes(self):
        for path in files():
            text = path.read_text(encoding="utf-8")
            rows = text.split("\n")
            self.assertTrue(all(sign == "\n" or " " <= sign <= "~" for sign in text), path.name)
            self.assertLessEqual(len(rows), 400, path.name)
            self.assertLessEqual(max(len(row) for row in rows), 120, path.name)

    def test_words(self):
        for path in files():
            words = set(re.findall(r"\w+", path.read_text(encoding="utf-8")))
            self.assertEqual(words & NO_WORDS, set(), path.name)

    def test_functions_are_short(self):
        for name, tree in trees():
            for node in ast.walk(tree):
                if isinstance(node, ast.FunctionDef):
                    self.assertLessEqual(node.end_lineno - node.lineno + 1, 40, (name, node.name))

    def test_nodes(self):
        for name, tree in trees():
            for node in ast.walk(tree):
                self.assertIn(type(node).__name__, NODES, (name, getattr(node, "lineno", 0)))
                if isinstance(node, ast.Assign):
                    self.assertEqual(len(node.targets), 1)
                if isinstance(node, ast.ListComp):
                    self.assertTrue(len(node.generators) == 1 and len(node.generators[0].ifs) <= 1)
                if isinstance(node, ast.Constant):
                    self.assertIn(type(node.value), (int, str, bool, type(None)), (name, node.lineno))

    def test_names(self):
        methods = METHODS | {node.name for name, tree in trees() for node in ast.walk(tree)
                             if isinstance(node, ast.FunctionDef)}
        for name, tree in trees():
            own = own_names(tree)
            self.assertEqual(own & (BUILT_IN | NOT_USED), set(), name)
            for node in ast.walk(tree):
                if isinstance(node, ast.Name):
                    self.assertIn(node.id, own | BUILT_IN, (name, node.lineno))
                if isinstance(node, ast.Attribute):
                    self.assertNotIn(node.attr, NOT_USED, (name, node.lineno))
                if isinstance(node, ast.Call) and isinstance(node.func, ast.Attribute):
                    self.assertIn(node.func.attr, methods, (name, node.lineno))

    def test_no_name_is_a_method_here_and_a_value_there(self):
        methods = set()
        values = set()
        for name, tree in trees():
            for node in ast.walk(tree):
                if isinstance(node, ast.ClassDef):
                    methods |= {part.name for part in node.body if isinstance(part, ast.FunctionDef)}
                if isinstance(node, ast.Attribute) and isinstance(node.ctx, ast.Store):
                    values.add(node.attr)
        self.assertEqual(methods & values, set())
        self.assertEqual((methods - METHODS) & PYTHONS_OWN, set())
        self.assertEqual(values & PYTHONS_OWN, set())

    def test_parameters_and_locals_hide_no_import_and_no_class(self):
        for name, tree in trees():
            above = {one.name for node in tree.body if isinstance(node, ast.ImportFrom) for one in node.names}
            above |= {node.name for node in tree.body if isinstance(node, ast.ClassDef)}
            for node in ast.walk(tree):
                if isinstance(node, ast.arg):
                    self.assertNotIn(node.arg, above | set(dir(builtins)), (name, node.lineno))
                if isinstance(node, ast.Name) and isinstance(node.ctx, ast.Store):
                    self.assertNotIn(node.id, above | set(dir(builtins)), (name, node.lineno))

    def test_two_lambdas_do_not_stand_on_one_line(self):
        for name, tree in trees():
            rows = [node.lineno for node in ast.walk(tree) if isinstance(node, ast.Lambda)]
            self.assertEqual(len(rows), len(set(rows)), name)

    def test_imports(self):
        drawn = {}
        for name, tree in trees():
            rows = [node for node in ast.walk(tree) if isinstance(node, ast.ImportFrom)]
            drawn[name] = {row.module.split(".")[1] + ".py" for row in rows}
            for row in rows:
                self.assertTrue(row.level == 0 and row.module.startswith("quarterprice."), name)
                self.assertTrue(all(one.asname is None and one.name != "*" for one in row.names), name)
        self.assertEqual(drawn["__init__.py"], set())
        while drawn:
            ends = [name for name in drawn if not drawn[name] & set(drawn)]
            self.assertTrue(ends, f"files that draw from one another: {sorted(drawn)}")
            for name in ends:
                drawn.pop(name)

    def test_top_of_files(self):
        for name, tree in trees():
            bound = []
            for node in tree.body:
                self.assertIsInstance(node, (ast.Expr, ast.ImportFrom, ast.FunctionDef, ast.ClassDef, ast.Assign))
                if isinstance(node, ast.Assign):
                    bound.append(node.targets[0].id)
                elif isinstance(node, (ast.FunctionDef, ast.ClassDef)):
                    bound.append(node.name)
                elif isinstance(node, ast.ImportFrom):
                    bound.extend(one.name for one in node.names)
            self.assertEqual(len(bound), len(set(bound)), name)


if __name__ == "__main__":
    unittest.main()
