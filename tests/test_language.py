"""The package's own files against those rules of LANGUAGE.md that can be seen in a file by itself."""

import ast
import builtins
import io
import re
import tokenize
import unittest
from functools import lru_cache
from pathlib import Path

PACKAGE = Path(__file__).resolve().parent.parent / "shuffletold"

STATEMENTS = (
    ast.Module, ast.FunctionDef, ast.ClassDef, ast.ImportFrom, ast.Assign, ast.AugAssign, ast.AnnAssign, ast.If,
    ast.While, ast.For, ast.Return, ast.Break, ast.Continue, ast.Pass, ast.Raise, ast.Try, ast.ExceptHandler,
    ast.Expr, ast.Assert, ast.Delete,
)
EXPRESSIONS = (
    ast.Constant, ast.List, ast.Tuple, ast.Dict, ast.Set, ast.Name, ast.Attribute, ast.Subscript, ast.Slice,
    ast.Starred, ast.Call, ast.keyword, ast.BinOp, ast.UnaryOp, ast.BoolOp, ast.Compare, ast.IfExp, ast.Lambda,
    ast.ListComp, ast.DictComp, ast.SetComp, ast.comprehension, ast.JoinedStr, ast.FormattedValue,
    ast.arguments, ast.arg, ast.alias, ast.expr_context, ast.operator, ast.unaryop, ast.boolop, ast.cmpop,
)
OUT = (ast.Div, ast.MatMult)

OWN_NAMES = set("""
    len range enumerate zip min max sum abs sorted reversed int str bool bytes list tuple dict set frozenset
    isinstance ord repr any all divmod Exception ValueError TypeError KeyError IndexError LookupError
    ZeroDivisionError ArithmeticError OverflowError RuntimeError NotImplementedError AttributeError StopIteration
""".split())
METHODS = set("""
    append clear copy count endswith extend find get index insert isalnum isalpha isdigit islower isspace isupper
    items join keys ljust lower lstrip partition pop remove replace reverse rfind rjust rpartition rsplit rstrip
    setdefault split splitlines startswith strip update upper values zfill bit_length title capitalize swapcase
    casefold center expandtabs removeprefix removesuffix rindex isascii isdecimal isnumeric istitle isidentifier
    isprintable sort add discard
""".split())
TWO_UNDERSCORES = {"__init__", "__eq__", "__repr__", "__str__", "__len__"}
NOT_USED = set("""
    register mro elements open input version_info with_traceback add_note attrgetter breakpoint builtins compile
    copyright credits delattr dir eval exec exit gc getattr globals hasattr help id importlib license locals
    methodcaller os quit setattr super vars sys
""".split())
WORDS = re.compile(
    r"\b(type|typing|typing_extensions|enum|Enum|IntEnum|StrEnum|Flag|IntFlag|Generic|Protocol|ABC|ABCMeta"
    r"|namedtuple|NamedTuple|TypedDict|TYPE_CHECKING|abstractmethod)\b|dataclass|overload|contextmanager"
)


@lru_cache(maxsize=None)
def sources():
    return {path.stem: path.read_text(encoding="utf-8") for path in sorted(PACKAGE.glob("*.py"))}


@lru_cache(maxsize=None)
def trees():
    return {name: ast.parse(text) for name, text in sources().items()}


def bound_names(tree):
    """Each name that the file binds anywhere: by an assignment, a loop, a parameter, a def, a class, a handler."""
    found = []
    for node in ast.walk(tree):
        if isinstance(node, ast.Name) and isinstance(node.ctx, ast.Store):
            found.append(node.id)
        elif isinstance(node, ast.arg):
            found.append(node.arg)
        elif isinstance(node, (ast.FunctionDef, ast.ClassDef)):
            found.append(node.name)
        elif isinstance(node, ast.ExceptHandler) and node.name:
            found.append(node.name)
    return found


def top_names(tree):
    """The names that the file itself makes at its top."""
    found = []
    for node in tree.body:
        if isinstance(node, (ast.FunctionDef, ast.ClassDef)):
            found.append(node.name)
        elif isinstance(node, ast.Assign):
            found.extend(target.id for target in node.targets)
    return found


def own_attributes():
    """The methods and values that the package's own classes give."""
    found = set()
    for tree in trees().values():
        for node in ast.walk(tree):
            if isinstance(node, ast.ClassDef):
                found.update(inner.name for inner in node.body if isinstance(inner, ast.FunctionDef))
            elif isinstance(node, ast.Attribute) and isinstance(node.ctx, ast.Store):
                found.add(node.attr)
    return found


def is_walk(node):
    """Whether node is a call of what is walked on the spot: zip, range and their kin."""
    if not isinstance(node, ast.Call):
        return False
    if isinstance(node.func, ast.Name):
        return node.func.id in ("zip", "enumerate", "reversed", "range")
    return isinstance(node.func, ast.Attribute) and node.func.attr in ("items", "keys", "values")


CHANGING = ("append", "clear", "extend", "insert", "pop", "remove", "reverse", "setdefault", "update", "sort")
WALKERS = ("list", "tuple", "dict", "sorted", "sum", "any", "all", "enumerate", "zip", "min", "max")


def drawn_names(tree):
    """The names that the file draws from others."""
    return [drawing.asname or drawing.name for node in tree.body if isinstance(node, ast.ImportFrom)
            for drawing in node.names]


def inner_names(tree):
    """The parameters and locals of the file's defs and lambdas."""
    found = []
    for top in tree.body:
        if isinstance(top, (ast.FunctionDef, ast.ClassDef)):
            for node in ast.walk(top):
                if isinstance(node, ast.arg):
                    found.append(node.arg)
                elif isinstance(node, ast.Name) and isinstance(node.ctx, (ast.Store, ast.Del)):
                    found.append(node.id)
                elif isinstance(node, ast.FunctionDef) and node is not top:
                    found.append(node.name)
    return [name for name in found if name not in TWO_UNDERSCORES]


def own_errors():
    """The error classes of the package."""
    return {node.name for tree in trees().values() for node in tree.body if isinstance(node, ast.ClassDef)}


def walked_names(node):
    """The plain names that a walk goes through, by themselves or within zip and its kin."""
    if isinstance(node, ast.Name):
        return [node.id]
    if is_walk(node) and isinstance(node.func, ast.Name):
        return [name for inner in node.args for name in walked_names(inner)]
    if is_walk(node):
        return walked_names(node.func.value)
    return []


def changed_names(nodes):
    """The plain names whose lists or dicts these rows change."""
    found = []
    for node in [inner for row in nodes for inner in ast.walk(row)]:
        if isinstance(node, ast.Subscript) and isinstance(node.ctx, (ast.Store, ast.Del)):
            found.append(node.value)
        elif isinstance(node, ast.Call) and isinstance(node.func, ast.Attribute) and node.func.attr in CHANGING:
            found.append(node.func.value)
    return [node.id for node in found if isinstance(node, ast.Name)]


def walks_on_the_spot(tree):
    """The nodes that stand where zip, range and their kin may stand."""
    found = []
    for node in ast.walk(tree):
        if isinstance(node, (ast.For, ast.comprehension)):
            found.append(node.iter)
        elif isinstance(node, ast.Call) and isinstance(node.func, ast.Name):
            if node.func.id in WALKERS:
                found.extend(node.args)
            elif node.func.id == "reversed" and is_walk(node.args[0]) and node.args[0].func.id == "range":
                found.extend(node.args)
        elif isinstance(node, ast.Compare) and isinstance(node.ops[0], (ast.In, ast.NotIn)):
            found.extend(node.comparators)
    return found


class Files(unittest.TestCase):
    def test_only_plain_files_lie_in_the_package(self):
        for path in PACKAGE.iterdir():
            if path.name != "__pycache__":
                self.assertTrue(path.is_file() and re.fullmatch(r"__init__\.py|[a-z][a-z0-9_]*\.py", path.name), path)
        self.assertIn("__init__", sources())

    def test_signs_sizes_and_words(self):
        for name, text in sources().items():
            rows = text.split("\n")
            self.assertLessEqual(len(rows), 400, name)
            for at, row in enumerate(rows, start=1):
                self.assertLessEqual(len(row), 120, (name, at))
                self.assertRegex(row, r"\A[ -~]*\Z", (name, at))
                self.assertIsNone(WORDS.search(row), (name, at))


class Code(unittest.TestCase):
    def test_only_forms_that_the_rules_have(self):
        for name, tree in trees().items():
            for node in ast.walk(tree):
                at = (name, getattr(node, "lineno", 0), type(node).__name__)
                self.assertIsInstance(node, STATEMENTS + EXPRESSIONS, at)
                self.assertNotIsInstance(node, OUT, at)
                if isinstance(node, ast.Constant):
                    self.assertIn(type(node.value), (int, str, bytes, bool, type(None)), at)

    def test_defs_are_short_and_plain(self):
        for name, tree in trees().items():
            for node in ast.walk(tree):
                if isinstance(node, ast.FunctionDef):
                    at = (name, node.name)
                    self.assertLessEqual(node.end_lineno - node.lineno + 1, 40, at)
                    self.assertEqual(node.decorator_list, [], at)
                    self.assertIsNone(node.args.vararg, at)
                    self.assertIsNone(node.args.kwarg, at)
                    self.assertEqual(node.args.posonlyargs, [], at)
                elif isinstance(node, (ast.For, ast.While)):
                    self.assertEqual(node.orelse, [], name)

    def test_imports_are_of_the_package_and_go_one_way(self):
        drawn = {}
        for name, tree in trees().items():
            drawn[name] = []
            for node in ast.walk(tree):
                if isinstance(node, ast.ImportFrom):
                    self.assertIn(node, tree.body, name)
                    self.assertEqual(node.level, 0, name)
                    package, module = node.module.split(".")
                    self.assertEqual(package, "shuffletold", name)
                    for drawing in node.names:
                        self.assertIn(drawing.name, top_names(trees()[module]), name)
                    drawn[name].append(module)
        while drawn:
            free = [name for name, modules in drawn.items() if not any(module in drawn for module in modules)]
            self.assertTrue(free, drawn)
            for name in free:
                del drawn[name]

    def test_names(self):
        own = set(dir(builtins))
        for name, tree in trees().items():
            bound = bound_names(tree)
            drawn = drawn_names(tree)
            for word in bound + drawn:
                if word not in TWO_UNDERSCORES:
                    self.assertRegex(word, r"\A[A-Za-z][A-Za-z0-9_]*\Z", name)
                    self.assertNotIn(word, own | NOT_USED, name)
            tops = top_names(tree) + drawn
            self.assertEqual(len(tops), len(set(tops)), name)
            for node in ast.walk(tree):
                if isinstance(node, ast.Name) and isinstance(node.ctx, ast.Load):
                    self.assertIn(node.id, set(bound) | set(drawn) | OWN_NAMES, (name, node.lineno))

    def test_attributes(self):
        known = METHODS | own_attributes() | {"__init__"}
        for name, tree in trees().items():
            for node in ast.walk(tree):
                if isinstance(node, ast.Attribute):
                    self.assertIn(node.attr, known, (name, node.lineno))

    def test_texts_without_a_percent_sign_and_powers_by_written_exponents(self):
        for name, tree in trees().items():
            for node in ast.walk(tree):
                if isinstance(node, ast.Constant) and isinstance(node.value, (str, bytes)):
                    self.assertNotIn("%", str(node.value), (name, node.lineno))
                elif isinstance(node, (ast.BinOp, ast.AugAssign)) and isinstance(node.op, ast.Pow):
                    exponent = node.right if isinstance(node, ast.BinOp) else node.value
                    self.assertIsInstance(exponent, ast.Constant, (name, node.lineno))
                    self.assertIn(exponent.value, range(65), (name, node.lineno))

    def test_what_is_walked_at_once_is_not_kept(self):
        for name, tree in trees().items():
            for node in ast.walk(tree):
                if isinstance(node, (ast.Assign, ast.Return)) and is_walk(node.value):
                    self.fail((name, node.lineno))

    def test_tops_that_are_kept_hold_no_list_or_dict(self):
        for name, tree in trees().items():
            for node in tree.body:
                if isinstance(node, ast.Assign) and isinstance(node.value, (ast.List, ast.Dict)):
                    for inner in list(ast.walk(node.value))[1:]:
                        self.assertNotIsInstance(inner, (ast.List, ast.Dict, ast.Set), (name, node.lineno))

    def test_is_stands_beside_none_true_and_false(self):
        for name, tree in trees().items():
            for node in ast.walk(tree):
                if isinstance(node, ast.Compare):
                    for sign, right in zip(node.ops, node.comparators):
                        if isinstance(sign, (ast.Is, ast.IsNot)):
                            self.assertIsInstance(right, ast.Constant, (name, node.lineno))
                            self.assertTrue(right.value in (None, True, False), (name, node.lineno))

    def test_locals_are_not_called_like_what_is_drawn_or_like_a_class(self):
        for name, tree in trees().items():
            classes = [node.name for node in tree.body if isinstance(node, ast.ClassDef)]
            for word in inner_names(tree):
                self.assertNotIn(word, drawn_names(tree) + classes, name)

    def test_what_is_called_bears_a_name(self):
        for name, tree in trees().items():
            for node in ast.walk(tree):
                if isinstance(node, ast.Call):
                    self.assertIsInstance(node.func, (ast.Name, ast.Attribute), (name, node.lineno))

    def test_errors_are_the_programs_own_and_made_on_the_spot(self):
        for name, tree in trees().items():
            for node in ast.walk(tree):
                if isinstance(node, ast.Raise):
                    self.assertIsInstance(node.exc, ast.Call, (name, node.lineno))
                    self.assertIn(node.exc.func.id, own_errors(), (name, node.lineno))
                elif isinstance(node, ast.ExceptHandler):
                    self.assertIn(node.type.id, own_errors(), (name, node.lineno))

    def test_what_a_loop_walks_is_not_changed_in_it(self):
        for name, tree in trees().items():
            for node in ast.walk(tree):
                if isinstance(node, ast.For):
                    for word in walked_names(node.iter):
                        self.assertNotIn(word, changed_names(node.body), (name, node.lineno))

    def test_what_a_file_keeps_at_its_top_is_not_changed(self):
        for name, tree in trees().items():
            kept = top_names(tree) + drawn_names(tree)
            for word in changed_names(tree.body):
                self.assertNotIn(word, kept, name)

    def test_walks_stand_where_they_are_walked(self):
        for name, tree in trees().items():
            spots = walks_on_the_spot(tree)
            for node in ast.walk(tree):
                if is_walk(node):
                    self.assertTrue(any(node is spot for spot in spots), (name, node.lineno))

    def test_no_sets_and_no_two_lambdas_on_one_line(self):
        for name, tree in trees().items():
            lambdas = [node.lineno for node in ast.walk(tree) if isinstance(node, ast.Lambda)]
            self.assertEqual(len(lambdas), len(set(lambdas)), name)
            for node in ast.walk(tree):
                self.assertNotIsInstance(node, (ast.Set, ast.SetComp), name)
                if isinstance(node, ast.Name):
                    self.assertNotIn(node.id, ("set", "frozenset"), (name, node.lineno))

    def test_escapes(self):
        for name, text in sources().items():
            for token in tokenize.generate_tokens(io.StringIO(text).readline):
                if token.type == tokenize.STRING:
                    for escape in re.findall(r"\\.", token.string, re.DOTALL):
                        self.assertIn(escape, ("\\n", "\\t", "\\\\", "\\'", '\\"'), (name, token.start))


if __name__ == "__main__":
    unittest.main()
