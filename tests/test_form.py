"""The part of the code's form that can be seen row by row: signs, sizes, words, imports, names."""

import ast
import builtins
import pathlib
import re
import unittest

PACKAGE = pathlib.Path(__file__).resolve().parent.parent / "figuretell"

OWN_NAMES = set("""
    len range enumerate zip min max sum abs sorted reversed int str bool list tuple dict set frozenset isinstance
    ord repr any all divmod Exception ValueError TypeError KeyError IndexError LookupError ZeroDivisionError
    ArithmeticError OverflowError RuntimeError NotImplementedError AttributeError StopIteration
""".split())

OWN_METHODS = set("""
    append clear copy count endswith extend find get index insert isalnum isalpha isdigit islower isspace isupper
    items join keys ljust lower lstrip partition pop remove replace reverse rfind rjust rpartition rsplit rstrip
    setdefault split splitlines startswith strip update upper values zfill bit_length
""".split())

OUT_WORDS = re.compile(
    r"\b(type|typing|typing_extensions|enum|Enum|IntEnum|StrEnum|Flag|IntFlag|Generic|Protocol|ABC|ABCMeta"
    r"|namedtuple|NamedTuple|TypedDict|TYPE_CHECKING|abstractmethod)\b|dataclass|overload|contextmanager"
)

OUT_FORMS = (
    ast.With, ast.Match, ast.Delete, ast.Global, ast.Nonlocal, ast.Assert, ast.Yield, ast.YieldFrom, ast.Await,
    ast.AsyncFunctionDef, ast.SetComp, ast.DictComp, ast.GeneratorExp, ast.NamedExpr, ast.Starred, ast.Div, ast.Import,
)


def sources():
    return [(path.name, path.read_text(encoding="utf-8")) for path in sorted(PACKAGE.glob("*.py"))]


def parts():
    for name, text in sources():
        for node in ast.walk(ast.parse(text)):
            yield (name, getattr(node, "lineno", 0)), node


class FormTest(unittest.TestCase):
    def test_nothing_else_lies_in_the_package(self):
        for path in PACKAGE.iterdir():
            if path.name != "__pycache__":
                self.assertRegex(path.name, r"^([a-z][a-z0-9_]*|__init__)\.py$")

    def test_signs_and_sizes(self):
        for name, text in sources():
            self.assertRegex(text, r"^[ -~\n]*\Z", name)
            self.assertLessEqual(len(text.splitlines()), 400, name)
            self.assertLessEqual(max(len(line) for line in text.splitlines()), 120, name)

    def test_functions_are_small(self):
        for at, node in parts():
            if isinstance(node, ast.FunctionDef):
                self.assertLessEqual(node.end_lineno - node.lineno + 1, 40, at)
                self.assertEqual([], node.decorator_list, at)
                self.assertIsNone(node.args.vararg or node.args.kwarg, at)

    def test_words_that_are_not_used(self):
        for name, text in sources():
            self.assertIsNone(OUT_WORDS.search(text), name)

    def test_imports_are_of_the_package(self):
        for at, node in parts():
            if isinstance(node, ast.ImportFrom):
                self.assertEqual(0, node.level, at)
                self.assertRegex(node.module, r"^figuretell\.[a-z_]+$", at)
                self.assertNotIn("*", [alias.name for alias in node.names], at)

    def test_names(self):
        pythons = vars(builtins)
        for at, node in parts():
            if isinstance(node, ast.Name) and isinstance(node.ctx, ast.Load) and node.id in pythons:
                self.assertIn(node.id, OWN_NAMES, at)
            elif isinstance(node, (ast.Name, ast.arg)):
                name = node.id if isinstance(node, ast.Name) else node.arg
                self.assertNotIn(name, pythons, at)
                self.assertRegex(name, r"^[A-Za-z]\w*$", at)
            elif isinstance(node, (ast.FunctionDef, ast.ClassDef)):
                self.assertRegex(node.name, r"^([A-Za-z]\w*|__(init|eq|repr|str|len)__)$", at)

    def test_methods(self):
        own = {node.name for at, node in parts() if isinstance(node, ast.FunctionDef)}
        for at, node in parts():
            if isinstance(node, ast.Call) and isinstance(node.func, ast.Attribute):
                self.assertIn(node.func.attr, OWN_METHODS | own, at)

    def test_no_local_is_called_like_a_class_or_an_import_of_its_file(self):
        for name, text in sources():
            tree = ast.parse(text)
            taken = {node.name for node in ast.walk(tree) if isinstance(node, ast.ClassDef)}
            for node in ast.walk(tree):
                if isinstance(node, ast.ImportFrom):
                    taken.update(alias.name for alias in node.names)
            for node in ast.walk(tree):
                if isinstance(node, ast.arg):
                    self.assertNotIn(node.arg, taken, (name, node.lineno))
                elif isinstance(node, ast.Name) and isinstance(node.ctx, ast.Store):
                    self.assertNotIn(node.id, taken, (name, node.lineno))

    def test_names_are_bound_once_at_the_top(self):
        for name, text in sources():
            bound = []
            for node in ast.parse(text).body:
                if isinstance(node, ast.ImportFrom):
                    bound.extend(alias.asname or alias.name for alias in node.names)
                elif isinstance(node, (ast.FunctionDef, ast.ClassDef)):
                    bound.append(node.name)
                elif isinstance(node, ast.Assign):
                    bound.extend(target.id for target in node.targets)
            self.assertEqual(sorted(set(bound)), sorted(bound), name)

    def test_no_two_files_draw_from_one_another(self):
        draws = {}
        for name, text in sources():
            nodes = [node for node in ast.walk(ast.parse(text)) if isinstance(node, ast.ImportFrom)]
            draws[name[:-3]] = {node.module.split(".")[1] for node in nodes}
        while draws:
            free = [name for name, drawn in draws.items() if not drawn & set(draws)]
            self.assertNotEqual([], free, draws)
            for name in free:
                del draws[name]

    def test_no_name_is_a_method_and_a_value(self):
        methods = set()
        values = set()
        for at, node in parts():
            if isinstance(node, ast.ClassDef):
                methods.update(part.name for part in node.body if isinstance(part, ast.FunctionDef))
            elif isinstance(node, ast.Attribute) and isinstance(node.ctx, ast.Store):
                values.add(node.attr)
        self.assertEqual(set(), methods & values)
        pythons = set().union(*[dir(kind) for kind in (str, int, list, dict, set, bytes)])
        self.assertEqual(set(), (methods | values) & pythons - {"__init__"})

    def test_sets_are_not_kept(self):
        for name, text in sources():
            tree = ast.parse(text)
            straight = set()
            for node in ast.walk(tree):
                if isinstance(node, ast.Call) and isinstance(node.func, ast.Name) and node.func.id in ("sorted", "len"):
                    straight.update(id(argument) for argument in node.args)
            for node in ast.walk(tree):
                self.assertNotIsInstance(node, ast.Set, name)
                if isinstance(node, ast.Call) and isinstance(node.func, ast.Name) and node.func.id == "set":
                    self.assertIn(id(node), straight, (name, node.lineno))

    def test_assignments_and_comprehensions_are_plain(self):
        for at, node in parts():
            if isinstance(node, ast.Assign):
                self.assertEqual(1, len(node.targets), at)
                self.assertNotIsInstance(node.targets[0], (ast.Tuple, ast.List), at)
            elif isinstance(node, ast.ListComp):
                self.assertEqual(1, len(node.generators), at)
                self.assertLessEqual(len(node.generators[0].ifs), 1, at)

    def test_forms_that_are_not_used(self):
        for at, node in parts():
            self.assertNotIsInstance(node, OUT_FORMS, at)
            if isinstance(node, ast.Constant):
                self.assertNotIsInstance(node.value, (float, complex, bytes), at)
            if isinstance(node, (ast.For, ast.While)):
                self.assertEqual([], node.orelse, at)
            if isinstance(node, ast.BinOp) and isinstance(node.op, ast.Pow):
                self.assertIsInstance(node.right, ast.Constant, at)


if __name__ == "__main__":
    unittest.main()
