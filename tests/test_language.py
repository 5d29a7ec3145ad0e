"""The package keeps to its small part of Python: the rules that a plain look at the files can see."""

import ast
import builtins
import pathlib
import re
import unittest

PACKAGE = pathlib.Path(__file__).resolve().parent.parent / "lieask"

OWN_NAMES = set(
    "len range enumerate zip min max sum abs sorted reversed int str bool list tuple dict set frozenset isinstance"
    " ord repr any all divmod Exception ValueError TypeError KeyError IndexError LookupError ZeroDivisionError"
    " ArithmeticError OverflowError RuntimeError NotImplementedError AttributeError StopIteration".split()
)
OWN_METHODS = set(
    "append clear copy count endswith extend find get index insert isalnum isalpha isdigit islower isspace isupper"
    " items join keys ljust lower lstrip partition pop remove replace reverse rfind rjust rpartition rsplit rstrip"
    " setdefault split splitlines startswith strip update upper values zfill bit_length".split()
)
WORDS_OUT = re.compile(
    r"\b(type|typing|typing_extensions|enum|Enum|IntEnum|StrEnum|Flag|IntFlag|Generic|Protocol|ABC|ABCMeta"
    r"|namedtuple|NamedTuple|TypedDict|TYPE_CHECKING|abstractmethod)\b|dataclass|overload|contextmanager"
)
NODES_OUT = (
    ast.Import, ast.With, ast.Match, ast.Delete, ast.Global, ast.Nonlocal, ast.Assert, ast.Yield, ast.YieldFrom,
    ast.AsyncFunctionDef, ast.AsyncFor, ast.AsyncWith, ast.Await, ast.SetComp, ast.DictComp, ast.GeneratorExp,
    ast.NamedExpr, ast.Starred, ast.Div, ast.AnnAssign, ast.Set,
)
WALKED = set("zip enumerate reversed range".split())
WALKERS = set("list tuple dict sorted sum any all enumerate zip min max".split())
KEYWORDS = {"sorted": {"key", "reverse"}, "min": {"key", "default"}, "max": {"key", "default"}, "sum": {"start"},
            "enumerate": {"start"}, "zip": {"strict"}}
CHANGES = set("append clear extend insert pop remove reverse setdefault update".split())


def files():
    return sorted(path for path in PACKAGE.rglob("*") if "__pycache__" not in path.parts)


def trees():
    return [(path.name, ast.parse(path.read_text(encoding="utf-8"))) for path in files()]


def nodes(*kinds):
    return [(name, node) for name, tree in trees() for node in ast.walk(tree) if isinstance(node, kinds)]


def bound(tree):
    names = set()
    for node in ast.walk(tree):
        if isinstance(node, (ast.FunctionDef, ast.ClassDef)):
            names.add(node.name)
        elif isinstance(node, ast.arg):
            names.add(node.arg)
        elif isinstance(node, ast.alias):
            names.add(node.asname or node.name)
        elif isinstance(node, ast.Name) and isinstance(node.ctx, ast.Store):
            names.add(node.id)
    return names


def is_error_class(word):
    return isinstance(getattr(builtins, word), type) and issubclass(getattr(builtins, word), Exception)


class Language(unittest.TestCase):
    def test_only_plain_files_lie_in_the_package(self):
        names = [path.name for path in files()]
        self.assertIn("__init__.py", names)
        for name in names:
            self.assertRegex(name, r"^(__init__|[a-z][a-z0-9_]*)\.py$")

    def test_signs_words_and_sizes(self):
        for path in files():
            text = path.read_bytes().decode("ascii")
            self.assertRegex(text, r"\A[\n -~]*\Z", path.name)
            self.assertIsNone(WORDS_OUT.search(text), path.name)
            self.assertLessEqual(len(text.splitlines()), 400, path.name)
            self.assertLessEqual(max([len(row) for row in text.splitlines()], default=0), 120, path.name)
        for name, node in nodes(ast.FunctionDef):
            self.assertLessEqual(node.end_lineno - node.lineno + 1, 40, (name, node.name))

    def test_imports_are_of_the_package_alone(self):
        for name, node in nodes(ast.ImportFrom):
            self.assertEqual(node.level, 0, name)
            self.assertTrue(node.module.startswith("lieask."), (name, node.module))
            self.assertNotIn("*", [alias.name for alias in node.names], name)

    def test_statements_and_values(self):
        self.assertEqual([(name, node.lineno) for name, node in nodes(*NODES_OUT)], [])
        for name, node in nodes(ast.Constant):
            self.assertIsInstance(node.value, (int, str, type(None)), (name, node.lineno))
            if isinstance(node.value, str):
                self.assertNotIn("%", node.value, (name, node.lineno))
        for name, node in nodes(ast.FunctionDef, ast.ClassDef):
            self.assertEqual(node.decorator_list, [], (name, node.name))

    def test_names(self):
        for name, tree in trees():
            own = bound(tree)
            self.assertEqual(own & OWN_NAMES, set(), name)
            for word in own:
                self.assertRegex(word, r"^([A-Za-z][A-Za-z0-9_]*|__(init|eq|repr|str|len)__)$", name)
            for node in ast.walk(tree):
                if isinstance(node, ast.Name):
                    self.assertIn(node.id, own | OWN_NAMES, (name, node.lineno))
                if isinstance(node, ast.Attribute):
                    self.assertIn(node.attr, own | OWN_METHODS, (name, node.lineno))

    def test_no_name_is_one_of_pythons_own(self):
        for name, tree in trees():
            self.assertEqual(bound(tree) & set(dir(builtins)), set(), name)

    def test_the_top_of_a_module(self):
        for name, tree in trees():
            tops = []
            for place, node in enumerate(tree.body):
                if isinstance(node, ast.Expr):
                    self.assertEqual(place, 0, name)
                    self.assertIsInstance(ast.literal_eval(node.value), str, name)
                elif isinstance(node, ast.Assign):
                    # Texts and numbers alone: there is no list or dict that a call could change.
                    self.assertIsInstance(ast.literal_eval(node.value), (int, str), (name, node.lineno))
                    tops += [target.id for target in node.targets]
                elif isinstance(node, ast.ImportFrom):
                    tops += [alias.asname or alias.name for alias in node.names]
                else:
                    self.assertIsInstance(node, (ast.FunctionDef, ast.ClassDef), (name, node.lineno))
                    tops.append(node.name)
            self.assertEqual(len(tops), len(set(tops)), name)
            inner = [node for top in tree.body if isinstance(top, ast.FunctionDef) for node in ast.walk(top)]
            inner = {node.id for node in inner if isinstance(node, ast.Name) and isinstance(node.ctx, ast.Store)} | {
                node.arg for node in inner if isinstance(node, ast.arg)}
            self.assertEqual(inner & set(tops), set(), name)

    def test_imports_draw_from_the_file_that_defines_and_in_no_ring(self):
        drawn = {}
        for name, tree in trees():
            rows = [node for node in tree.body if isinstance(node, ast.ImportFrom)]
            drawn["lieask." + name[:-3]] = {row.module for row in rows}
            for row in rows:
                source = ast.parse((PACKAGE / (row.module.partition(".")[2] + ".py")).read_text(encoding="utf-8"))
                defined = [node.name for node in source.body if isinstance(node, (ast.FunctionDef, ast.ClassDef))]
                defined += [node.targets[0].id for node in source.body if isinstance(node, ast.Assign)]
                for alias in row.names:
                    self.assertIn(alias.name, defined, (name, row.lineno))
        self.assertEqual(drawn["lieask.__init__"], set())
        while drawn:
            free = [module for module, sources in drawn.items() if not sources & set(drawn)]
            self.assertNotEqual(free, [], drawn)
            drawn = {module: sources for module, sources in drawn.items() if module not in free}

    def test_functions_loops_and_comprehensions(self):
        for name, node in nodes(ast.FunctionDef, ast.Lambda):
            given = node.args
            self.assertEqual([given.vararg, given.kwarg], [None, None], name)
            self.assertEqual(given.kwonlyargs + given.posonlyargs, [], name)
            self.assertEqual([arg for arg in given.args if arg.annotation], [], name)
        self.assertEqual([node.name for _, node in nodes(ast.FunctionDef) if node.returns], [])
        for name, node in nodes(ast.For, ast.While):
            self.assertEqual(node.orelse, [], (name, node.lineno))
        for name, node in nodes(ast.Assign):
            self.assertEqual(len(node.targets), 1, (name, node.lineno))
        for name, node in nodes(ast.ListComp):
            self.assertEqual(len(node.generators), 1, (name, node.lineno))
            self.assertLessEqual(len(node.generators[0].ifs), 1, (name, node.lineno))
        for name, node in nodes(ast.Try):
            self.assertEqual(node.finalbody, [], (name, node.lineno))
        for name, node in nodes(ast.BinOp):
            self.assertNotIsInstance(node.op, ast.Pow, (name, node.lineno))

    def test_is_stands_beside_none_true_and_false(self):
        for name, node in nodes(ast.Compare):
            if isinstance(node.ops[0], (ast.Is, ast.IsNot)):
                self.assertIn(ast.unparse(node.comparators[0]), ("None", "True", "False"), (name, node.lineno))

    def test_keywords_are_those_of_the_rules(self):
        for name, node in nodes(ast.Call):
            called = node.func.id if isinstance(node.func, ast.Name) else None
            for keyword in node.keywords:
                self.assertIn(keyword.arg, KEYWORDS.get(called, ()), (name, node.lineno))

    def test_pythons_own_are_called_and_what_is_walked_is_walked_at_once(self):
        for name, tree in trees():
            called = [node.func for node in ast.walk(tree) if isinstance(node, ast.Call)]
            walked = [node.iter for node in ast.walk(tree) if isinstance(node, (ast.For, ast.comprehension))]
            walked += [
                argument for node in ast.walk(tree) if isinstance(node, ast.Call)
                for argument in node.args if ast.unparse(node.func) in WALKERS
            ]
            for node in ast.walk(tree):
                if isinstance(node, ast.Attribute):
                    self.assertTrue(any(node is other for other in called), (name, node.lineno))
                if isinstance(node, ast.Name) and node.id in OWN_NAMES and not is_error_class(node.id):
                    self.assertTrue(any(node is other for other in called), (name, node.lineno))
                if isinstance(node, ast.Call) and ast.unparse(node.func) in WALKED:
                    self.assertTrue(any(node is other for other in walked), (name, node.lineno))

    def test_what_a_loop_walks_is_not_changed_in_it(self):
        for name, loop in nodes(ast.For):
            read = {node.id for node in ast.walk(loop.iter) if isinstance(node, ast.Name)}
            for node in [inner for row in loop.body for inner in ast.walk(row)]:
                if isinstance(node, ast.Attribute) and node.attr in CHANGES:
                    self.assertNotIn(ast.unparse(node.value), read, (name, node.lineno))
                if isinstance(node, ast.Subscript) and isinstance(node.ctx, ast.Store):
                    self.assertNotIn(ast.unparse(node.value), read, (name, node.lineno))


if __name__ == "__main__":
    unittest.main()
