"""Rules of the language of the package that can be read off its files, by their numbers."""

import ast
import builtins
import pathlib
import re
import unittest

PACKAGE = pathlib.Path(__file__).resolve().parent.parent / "loosebeats"
FILES = sorted(path for path in PACKAGE.rglob("*") if path.is_file() and "__pycache__" not in path.parts)
SOURCES = {path.stem: path.read_bytes() for path in FILES}
TREES = {name: ast.parse(source) for name, source in SOURCES.items()}

BUILTINS = set(
    "len range enumerate zip min max sum abs sorted reversed int str bool bytes list tuple dict set frozenset "
    "isinstance ord repr any all divmod iter next map property staticmethod classmethod Exception ValueError "
    "TypeError KeyError IndexError LookupError ZeroDivisionError ArithmeticError OverflowError RuntimeError "
    "NotImplementedError AttributeError StopIteration NotImplemented".split()
)
METHODS = set(
    "append clear copy count endswith extend find get index insert isalnum isalpha isdigit islower isspace isupper "
    "items join keys ljust lower lstrip partition pop remove replace reverse rfind rjust rpartition rsplit rstrip "
    "setdefault split splitlines startswith strip update upper values zfill bit_length encode decode".split()
)
LIBRARY = {
    "heapq": ["heappush", "heappop", "heapify", "heapreplace", "heappushpop"],
    "math": ["gcd", "lcm", "isqrt", "comb", "perm", "factorial"],
    "itertools": ["product", "combinations", "permutations"],
}
NOT_AT_ALL = (ast.Global, ast.AsyncFunctionDef, ast.AsyncFor, ast.AsyncWith, ast.Await, ast.Import, ast.Div, ast.MatMult)
AT_MODULE_LEVEL = (ast.ImportFrom, ast.FunctionDef, ast.ClassDef, ast.Assign, ast.Expr)
DOUBLE = re.compile(r"__[a-z]+__")


def nodes(kind):
    for name, tree in TREES.items():
        for node in ast.walk(tree):
            if isinstance(node, kind):
                yield name, node


def defined(name):
    found = []
    for node in TREES[name].body:
        if isinstance(node, (ast.FunctionDef, ast.ClassDef)):
            found.append(node.name)
        elif isinstance(node, ast.Assign):
            found.extend(target.id for target in node.targets)
    return found


def imported(name):
    for node in TREES[name].body:
        if isinstance(node, ast.ImportFrom):
            for alias in node.names:
                yield node.module, alias


class Language(unittest.TestCase):
    def test_l1_l14_files(self):
        for path in FILES:
            self.assertRegex(path.relative_to(PACKAGE).as_posix(), r"^[a-z_][a-z0-9_]*\.py$")
        self.assertIn("__init__", SOURCES)

    def test_l2_l16_imports(self):
        for name in SOURCES:
            for module, alias in imported(name):
                self.assertIsNone(alias.asname)
                if module in LIBRARY:
                    self.assertIn(alias.name, LIBRARY[module])
                else:
                    package, _, file = module.partition(".")
                    self.assertEqual(package, "loosebeats")
                    self.assertIn(alias.name, defined(file))
        for name, node in nodes(ast.ImportFrom):
            self.assertEqual(node.level, 0)
            self.assertIn(node, TREES[name].body)

    def test_l16_no_ring_of_imports(self):
        needs = {name: {module.partition(".")[2] for module, _ in imported(name)} & set(SOURCES) for name in SOURCES}
        left = dict(needs)
        while left:
            ready = [name for name in left if not left[name] & set(left)]
            self.assertTrue(ready, f"a ring among {sorted(left)}")
            for name in ready:
                del left[name]

    def test_l3_l15_module_level(self):
        for name, tree in TREES.items():
            for at, node in enumerate(tree.body):
                self.assertIsInstance(node, AT_MODULE_LEVEL)
                if isinstance(node, ast.Expr):
                    self.assertEqual(at, 0)
                if isinstance(node, ast.Assign):
                    ast.literal_eval(node.value)
            bound = defined(name) + [alias.name for _, alias in imported(name)]
            self.assertEqual(len(bound), len(set(bound)))

    def test_l5_decorators(self):
        for _, node in nodes((ast.FunctionDef, ast.ClassDef)):
            for decorator in node.decorator_list:
                self.assertIn(ast.unparse(decorator), ["property", "staticmethod", "classmethod"])

    def test_l5_nothing_is_added_in_place_where_a_class_has_iadd(self):
        self.assertEqual([(name, node.lineno) for name, node in nodes(ast.AugAssign)], [])

    def test_l5_l23_nothing_is_yielded(self):
        self.assertEqual([(name, node.lineno) for name, node in nodes((ast.Yield, ast.YieldFrom))], [])

    def test_l5_objects_that_are_indexed_are_not_iterated_over(self):
        for name, node in nodes(ast.ClassDef):
            own = {part.name: part for part in node.body if isinstance(part, ast.FunctionDef)}
            if "__getitem__" in own:
                (row,) = own["__iter__"].body
                self.assertIsInstance(row, ast.Raise, name)

    def test_l6_exit_is_plain(self):
        for name, node in nodes(ast.FunctionDef):
            if node.name == "__exit__":
                self.assertEqual([part.arg for part in node.args.args], ["self", "kind", "value", "trace"])
                for row in node.body:
                    self.assertIsInstance(row, ast.Assign, name)
                    self.assertIsInstance(row.targets[0], ast.Attribute)
                    self.assertIsInstance(row.value, (ast.Attribute, ast.Name))

    def test_l6_patterns_are_plain_strings(self):
        for name, node in nodes(ast.pattern):
            self.assertIsInstance(node, (ast.MatchValue, ast.MatchOr), name)
            if isinstance(node, ast.MatchValue):
                self.assertIsInstance(ast.literal_eval(node.value), str)

    def test_l6_l7_nodes(self):
        for name, node in nodes(ast.AST):
            self.assertNotIsInstance(node, NOT_AT_ALL, name)
            if isinstance(node, ast.Constant):
                self.assertNotIsInstance(node.value, (float, complex))

    def test_l7_no_generator_expression_where_a_class_has_eq(self):
        self.assertEqual([(name, node.lineno) for name, node in nodes(ast.GeneratorExp)], [])

    def test_l7_l27_the_left_side_of_a_remainder_is_plainly_a_number(self):
        for name, node in nodes(ast.BinOp):
            if isinstance(node.op, ast.Mod):
                if isinstance(node.left, ast.Call):
                    self.assertIn(ast.unparse(node.left.func), ["int", "len"], (name, node.lineno))
                else:
                    self.assertIsInstance(node.left, ast.Constant, (name, node.lineno))
                    self.assertIs(type(node.left.value), int, (name, node.lineno))

    def test_l8_l15_builtins(self):
        for name, node in nodes(ast.Name):
            if hasattr(builtins, node.id):
                self.assertIn(node.id, BUILTINS, name)
                self.assertIsInstance(node.ctx, ast.Load, name)
        for name, node in nodes(ast.arg):
            self.assertFalse(hasattr(builtins, node.arg), (name, node.arg))
        for name, node in nodes((ast.FunctionDef, ast.ClassDef)):
            if not DOUBLE.fullmatch(node.name):
                self.assertFalse(hasattr(builtins, node.name), (name, node.name))

    def test_l10_sizes(self):
        for name, source in SOURCES.items():
            lines = source.decode().split("\n")
            self.assertLessEqual(len(lines) - 1, 399, name)
            self.assertLessEqual(max(len(line) for line in lines), 120, name)
        for name, node in nodes(ast.FunctionDef):
            self.assertLessEqual(node.end_lineno - node.lineno + 1, 40, (name, node.name))

    def test_l12_l14_characters_and_names(self):
        for name, source in SOURCES.items():
            self.assertTrue(all(byte == 10 or 32 <= byte <= 126 for byte in source), name)
        for name, node in nodes((ast.Name, ast.Attribute, ast.arg, ast.FunctionDef, ast.ClassDef)):
            for field in ("id", "attr", "arg", "name"):
                word = getattr(node, field, "a")
                self.assertTrue(word == "_" or re.fullmatch("_?[A-Za-z][A-Za-z0-9_]*", word) or DOUBLE.fullmatch(word))
        for name, node in nodes(ast.Name):
            if node.id == "_":
                self.assertIsInstance(node.ctx, ast.Store, name)

    def test_l15_no_local_name_hides_an_import_or_a_class(self):
        for name, tree in TREES.items():
            barred = {alias.name for _, alias in imported(name)}
            barred |= {node.name for node in tree.body if isinstance(node, ast.ClassDef)}
            for node in ast.walk(tree):
                if isinstance(node, ast.arg):
                    self.assertNotIn(node.arg, barred, name)
                if isinstance(node, ast.Name) and isinstance(node.ctx, ast.Store):
                    self.assertNotIn(node.id, barred, name)

    def test_l17_words(self):
        barred = {"register", "mro", "elements", "open", "input", "law", "version_info", "add_note", "with_traceback"}
        for name, source in SOURCES.items():
            self.assertNotRegex(source.decode(), r"\(type\)|Meta|metaclass=|_wall|_WallAttr")
        for name, node in nodes((ast.Name, ast.Attribute, ast.arg, ast.FunctionDef, ast.keyword)):
            for field in ("id", "attr", "arg", "name"):
                self.assertNotIn(getattr(node, field, None), barred | {"type", "args"}, name)

    def test_l20_is(self):
        for name, node in nodes(ast.Compare):
            for operator, right in zip(node.ops, node.comparators):
                if isinstance(operator, (ast.Is, ast.IsNot)):
                    self.assertIn(ast.unparse(right), ["None", "True", "False"], name)

    def test_l25_methods(self):
        own = {node.name for _, node in nodes(ast.FunctionDef)}
        for name, node in nodes(ast.Call):
            if isinstance(node.func, ast.Attribute):
                self.assertIn(node.func.attr, METHODS | own, (name, node.lineno))

    def test_l27_strings(self):
        for name, node in nodes(ast.Constant):
            if isinstance(node.value, str):
                self.assertNotIn(chr(37), node.value, name)


if __name__ == "__main__":
    unittest.main()
