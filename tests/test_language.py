"""Holds the package's files to the rules of LANGUAGE.md that can be seen from a file's form."""

import ast
import builtins
import pathlib
import re
import unittest

PACKAGE = pathlib.Path(__file__).resolve().parent.parent / "rowsmith"

# What DOC.md's interface names, stage by stage: a stage draws from lower ones these names alone.
STAGES = [
    {"errors": "RowsmithError NoText NoName NoRow NotRight TooMany NoExchange NoLine"},
    {"trees": "is_name is_tree parts places tree_at pieces within names_in worth", "treetexts": "shown read"},
    {"tables": "is_table holes leaves", "tabletexts": "shown_table read_table"},
    {"covers": "lies bears is_cover price", "counts": "how_many all_covers"},
    {"labels": "labels is_paper", "least": "least how_many_least"},
    {"rows": "behind cell_words run", "cells": "need rows_of thrifty thrift_paper is_thrift"},
    {"webs": "is_web web_worths opened open_last web_labels", "keeping": "front_price keeping is_keeping"},
    {"columns": "columns", "gaps": "all_sets are_sets gap is_gap"},
    {"states": "prices all_states are_states walked"},
    {"against": "against", "growing": "is_against"},
    {"straight": "straight straight_worth apart"},
    {"exchanges": "exchanges exchanged", "classes": "led_to cheapest is_cheapest"},
    {"desk": "Desk"},
]
# What several stages have in common stands here, in no stage.
HELPERS = ("shapes", "chains", "steps")

OWN_NAMES = set("""len range enumerate zip min max sum abs sorted reversed int str bool list tuple dict set frozenset
    isinstance ord repr any all divmod Exception ValueError TypeError KeyError IndexError LookupError
    ZeroDivisionError ArithmeticError OverflowError RuntimeError NotImplementedError AttributeError
    StopIteration""".split())
METHODS = set("""append clear copy count endswith extend find get index insert isalnum isalpha isdigit islower isspace
    isupper items join keys ljust lower lstrip partition pop remove replace reverse rfind rjust rpartition rsplit
    rstrip setdefault split splitlines startswith strip update upper values zfill bit_length""".split())
WORDS = re.compile(r"""\b(type|typing|typing_extensions|enum|Enum|IntEnum|StrEnum|Flag|IntFlag|Generic|Protocol|ABC
    |ABCMeta|namedtuple|NamedTuple|TypedDict|TYPE_CHECKING|abstractmethod)\b|dataclass|overload|contextmanager""", re.X)
NEVER = set("register mro elements open input version_info with_traceback add_note format format_map".split())
STATEMENTS = (ast.FunctionDef, ast.ClassDef, ast.Assign, ast.AugAssign, ast.If, ast.While, ast.For, ast.Return,
              ast.Break, ast.Continue, ast.Pass, ast.Raise, ast.Try, ast.Expr, ast.ImportFrom)
NOT_EXPRESSIONS = (ast.SetComp, ast.DictComp, ast.GeneratorExp, ast.NamedExpr, ast.Starred, ast.Await, ast.Yield,
                   ast.YieldFrom, ast.Div, ast.MatMult)
AT_TOP = (ast.ImportFrom, ast.FunctionDef, ast.ClassDef, ast.Assign, ast.Expr)


def files():
    return sorted(PACKAGE.glob("*.py"))


def called(node):
    """The name of the function or method that a call calls."""
    return node.func.attr if isinstance(node.func, ast.Attribute) else getattr(node.func, "id", None)


def stage_of(module):
    for number, stage in enumerate(STAGES):
        if module in stage:
            return number
    return None


class TestLanguage(unittest.TestCase):
    def each_node(self):
        for path in files():
            for node in ast.walk(ast.parse(path.read_text())):
                yield path.name, node

    def test_files(self):
        self.assertGreater(len(files()), 3)
        for path in PACKAGE.iterdir():
            if path.name != "__pycache__":
                self.assertRegex(path.name, r"^([a-z][a-z0-9_]*|__init__|__main__)\.py$")
                self.assertNotIn(path.stem, [name for name in dir(builtins) if not name.startswith("__")])

    def test_sizes_and_signs(self):
        for path in files():
            text = path.read_bytes().decode("ascii")
            self.assertRegex(text, r"\A[\n -~]*\Z", path.name)
            lines = text.splitlines()
            self.assertLessEqual(len(lines), 400, path.name)
            self.assertLessEqual(max(len(line) for line in lines), 120, path.name)
            self.assertIsNone(WORDS.search(text), path.name)

    def test_functions(self):
        for where, node in self.each_node():
            if isinstance(node, ast.FunctionDef):
                self.assertLessEqual(node.end_lineno - node.lineno + 1, 40, (where, node.name))
                self.assertEqual(node.decorator_list, [], where)
                self.assertIsNone(node.returns, where)
            if isinstance(node, ast.arguments):
                self.assertEqual((node.vararg, node.kwarg, node.kwonlyargs, node.posonlyargs), (None, None, [], []))
                self.assertTrue(all(isinstance(value, ast.Constant) for value in node.defaults), where)

    def test_statements(self):
        for where, node in self.each_node():
            if isinstance(node, ast.stmt):
                self.assertIsInstance(node, STATEMENTS, (where, node.lineno))
            if isinstance(node, (ast.While, ast.For)):
                self.assertEqual(node.orelse, [], (where, node.lineno))
            if isinstance(node, ast.Assign):
                self.assertEqual(len(node.targets), 1, (where, node.lineno))
                self.assertNotIsInstance(node.targets[0], ast.Tuple, (where, node.lineno))
            if isinstance(node, ast.Try):
                self.assertEqual(node.finalbody, [], (where, node.lineno))
                for handler in node.handlers:
                    self.assertIsInstance(handler.type, (ast.Name, ast.Tuple), (where, node.lineno))

    def test_top_of_files(self):
        for path in files():
            bound = []
            for node in ast.parse(path.read_text()).body:
                self.assertIsInstance(node, AT_TOP, (path.name, node.lineno))
                if isinstance(node, ast.Assign):
                    ast.literal_eval(node.value)
                    bound.append(node.targets[0].id)
                elif isinstance(node, ast.Expr):
                    self.assertIsInstance(node.value, ast.Constant, path.name)
                elif isinstance(node, ast.ImportFrom):
                    bound.extend(alias.name for alias in node.names)
                else:
                    bound.append(node.name)
            self.assertEqual(len(bound), len(set(bound)), path.name)

    def test_expressions(self):
        for where, node in self.each_node():
            self.assertNotIsInstance(node, NOT_EXPRESSIONS, where)
            if isinstance(node, ast.Constant):
                self.assertIsInstance(node.value, (int, str, type(None)), where)
                self.assertNotIn("%", str(node.value), where)
            if isinstance(node, ast.ListComp):
                self.assertEqual(len(node.generators), 1, (where, node.lineno))
                self.assertLessEqual(len(node.generators[0].ifs), 1, (where, node.lineno))
            if isinstance(node, ast.FormattedValue):
                self.assertIsInstance(node.value, ast.Name, where)
                self.assertIsNone(node.format_spec, where)
            if isinstance(node, ast.Compare):
                for operator, value in zip(node.ops, node.comparators):
                    if isinstance(operator, (ast.Is, ast.IsNot)):
                        self.assertIsInstance(value, ast.Constant, (where, node.lineno))
            if isinstance(node, ast.Set):
                self.fail(where)

    def test_names(self):
        for path in files():
            tree = ast.parse(path.read_text())
            classes_and_imports = set()
            for node in tree.body:
                if isinstance(node, ast.ImportFrom):
                    classes_and_imports |= {alias.name for alias in node.names}
                elif isinstance(node, ast.ClassDef):
                    classes_and_imports.add(node.name)
            for node in ast.walk(tree):
                if isinstance(node, ast.Name):
                    self.assertRegex(node.id, r"^[A-Za-z][A-Za-z0-9_]*$", path.name)
                    if isinstance(node.ctx, ast.Load) and hasattr(builtins, node.id):
                        self.assertIn(node.id, OWN_NAMES, (path.name, node.lineno))
                named = node.arg if isinstance(node, ast.arg) else None
                if isinstance(node, ast.Name) and isinstance(node.ctx, ast.Store):
                    named = node.id
                if named is not None:
                    self.assertFalse(hasattr(builtins, named), (path.name, named))
                    self.assertNotIn(named, classes_and_imports, (path.name, node.lineno))
                    self.assertNotIn(named, NEVER, (path.name, named))

    def test_methods(self):
        own = {node.name for where, node in self.each_node() if isinstance(node, ast.FunctionDef)}
        for where, node in self.each_node():
            if isinstance(node, ast.Attribute):
                self.assertNotIn(node.attr, NEVER, (where, node.lineno))
            if isinstance(node, ast.Call) and isinstance(node.func, ast.Attribute):
                self.assertIn(node.func.attr, METHODS | own, (where, node.lineno))
            if isinstance(node, ast.Call) and isinstance(node.func, ast.Name) and node.func.id in ("set", "frozenset"):
                self.assertEqual(node.keywords, [], (where, node.lineno))

    def test_methods_and_values_of_classes(self):
        methods, values = set(), set()
        for where, node in self.each_node():
            if isinstance(node, ast.ClassDef):
                methods |= {inner.name for inner in node.body if isinstance(inner, ast.FunctionDef)}
            if isinstance(node, ast.Attribute) and isinstance(node.ctx, ast.Store):
                values.add(node.attr)
        self.assertEqual(methods & values, set())
        python_own = set()
        for kind in (str, int, list, dict, set, bytes, tuple):
            python_own |= {own for own in dir(kind) if not own.startswith("__")}
        self.assertEqual(values & python_own - set("count index title find get join lower upper split strip copy add".split()),
                         set())
        self.assertEqual(methods & python_own - METHODS - {"add", "discard"}, set())

    def test_walked_on_the_spot(self):
        # What enumerate, zip, reversed, items and their like give is not kept.
        walks = {"zip", "enumerate", "reversed", "range", "items", "keys", "values"}
        takers = {"list", "tuple", "dict", "sorted", "sum", "any", "all", "enumerate", "zip", "min", "max", "join"}
        for path in files():
            tree = ast.parse(path.read_text())
            good = set()
            for node in ast.walk(tree):
                if isinstance(node, (ast.For, ast.comprehension)):
                    good.add(node.iter)
                if isinstance(node, ast.Call) and called(node) in takers and node.args:
                    good.add(node.args[0])
                    if called(node) in ("zip", "enumerate"):
                        good.update(node.args)
            for node in ast.walk(tree):
                if isinstance(node, ast.Call) and called(node) in walks:
                    self.assertIn(node, good, (path.name, node.lineno))

    def test_powers_and_sets(self):
        for path in files():
            tree = ast.parse(path.read_text())
            beside = set()
            for node in ast.walk(tree):
                if isinstance(node, ast.BinOp) and isinstance(node.op, ast.Pow):
                    self.assertIsInstance(node.right, ast.Constant, (path.name, node.lineno))
                if isinstance(node, ast.Compare):
                    beside.update(node.comparators)
                    beside.add(node.left)
                if isinstance(node, ast.Call) and called(node) in ("len", "sorted"):
                    beside.update(node.args)
            for node in ast.walk(tree):
                if isinstance(node, ast.Call) and called(node) in ("set", "frozenset"):
                    self.assertIn(node, beside, (path.name, node.lineno))

    def test_imports(self):
        drawn = {}
        for path in files():
            drawn[path.stem] = set()
            for node in ast.parse(path.read_text()).body:
                if isinstance(node, ast.ImportFrom):
                    self.assertEqual(node.level, 0, path.name)
                    self.assertRegex(node.module, r"^rowsmith\.[a-z_]+$", path.name)
                    self.assertTrue(all(alias.asname is None for alias in node.names), path.name)
                    drawn[path.stem].add(node.module.partition(".")[2])
                    self.check_stage(path.stem, node)
        while drawn:
            free = [module for module in drawn if not drawn[module]]
            self.assertNotEqual(free, [], "files that draw from one another")
            drawn = {module: drawn[module] - set(free) for module in drawn if module not in free}

    def check_stage(self, module, node):
        other = node.module.partition(".")[2]
        mine, its = stage_of(module), stage_of(other)
        if other in HELPERS:
            return
        self.assertIsNotNone(its, (module, other))
        if its != mine:
            self.assertTrue(mine is None or its < mine, (module, other))
            for alias in node.names:
                self.assertIn(alias.name, STAGES[its][other].split(), (module, other))

    def test_the_interface_is_there(self):
        for stage in STAGES:
            for module, names in stage.items():
                body = ast.parse((PACKAGE / (module + ".py")).read_text()).body
                defined = [node.name for node in body if isinstance(node, (ast.FunctionDef, ast.ClassDef))]
                for name in names.split():
                    self.assertIn(name, defined, module)


if __name__ == "__main__":
    unittest.main()
