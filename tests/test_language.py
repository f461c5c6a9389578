"""The package's files keep to the rules of the language that can be seen from the code alone."""

import ast
import builtins
import pathlib
import re
import unittest

PACKAGE = pathlib.Path(__file__).resolve().parent.parent / "inkform"

OWN_NAMES = set("""
len range enumerate zip min max sum abs sorted reversed int str bool list tuple dict set frozenset isinstance ord repr any
all divmod Exception ValueError TypeError KeyError IndexError LookupError ZeroDivisionError ArithmeticError OverflowError
RuntimeError NotImplementedError StopIteration
""".split())

OWN_METHODS = set("""
append clear copy count endswith extend find get index insert isalnum isalpha isdigit islower isspace isupper items join keys
ljust lower lstrip partition pop remove replace reverse rfind rjust rpartition rsplit rstrip setdefault split splitlines
startswith strip update upper values zfill bit_length
""".split())

NOT_USED = set("""
register mro elements open input version_info with_traceback add_note attrgetter breakpoint builtins compile copyright credits
delattr dir eval exec exit gc getattr globals hasattr help id importlib license locals methodcaller os quit setattr super type
vars sys chr format format_map
""".split())

NOT_WRITTEN = re.compile(
    r"\b(type|typing|typing_extensions|enum|Enum|IntEnum|StrEnum|Flag|IntFlag|Generic|Protocol|ABC|ABCMeta|namedtuple"
    r"|NamedTuple|TypedDict|TYPE_CHECKING|abstractmethod)\b|dataclass|overload|contextmanager"
)

KEYWORDS = {
    "sorted": ("key", "reverse"), "min": ("key", "default"), "max": ("key", "default"),
    "sum": ("start",), "enumerate": ("start",), "zip": ("strict",),
}

NODES = (
    ast.Module, ast.ImportFrom, ast.alias, ast.FunctionDef, ast.arguments, ast.arg, ast.ClassDef, ast.Assign, ast.AugAssign,
    ast.If, ast.While, ast.For, ast.Return, ast.Break, ast.Continue, ast.Pass, ast.Raise, ast.Try, ast.ExceptHandler, ast.Expr,
    ast.Constant, ast.List, ast.Tuple, ast.Dict, ast.BinOp, ast.UnaryOp, ast.BoolOp, ast.Compare, ast.IfExp, ast.Call,
    ast.keyword, ast.Attribute, ast.Subscript, ast.Slice, ast.ListComp, ast.comprehension, ast.JoinedStr, ast.FormattedValue,
    ast.Lambda, ast.Name, ast.Load, ast.Store, ast.And, ast.Or, ast.Not, ast.USub, ast.Add, ast.Sub, ast.Mult, ast.FloorDiv,
    ast.Mod, ast.Eq, ast.NotEq, ast.Lt, ast.LtE, ast.Gt, ast.GtE, ast.Is, ast.IsNot, ast.In, ast.NotIn,
)

SIMPLE_VALUES = (ast.Constant, ast.List, ast.Tuple, ast.Dict, ast.UnaryOp, ast.USub, ast.Load)


def files():
    return sorted(PACKAGE.glob("*.py"))


def called_name(node):
    return node.func.id if isinstance(node.func, ast.Name) else None


def bound_names(node):
    """All names that are bound in a function or a module, at any depth."""
    found = {each.id for each in ast.walk(node) if isinstance(each, ast.Name) and isinstance(each.ctx, ast.Store)}
    found |= {each.arg for each in ast.walk(node) if isinstance(each, ast.arg)}
    return found | {each.name for each in ast.walk(node) if isinstance(each, ast.ExceptHandler) and each.name}


def top_names(tree):
    names = []
    for node in tree.body:
        if isinstance(node, (ast.FunctionDef, ast.ClassDef)):
            names.append(node.name)
        elif isinstance(node, ast.Assign):
            names.append(node.targets[0].id)
        elif isinstance(node, ast.ImportFrom):
            names += [alias.name for alias in node.names]
    return names


class Language(unittest.TestCase):
    def setUp(self):
        self.texts = {path.stem: path.read_bytes().decode("ascii") for path in files()}
        self.trees = {stem: ast.parse(text) for stem, text in self.texts.items()}

    def each(self, kind, check):
        """Checks each node of this kind, and tells where one is that doesn't hold."""
        for stem, tree in self.trees.items():
            for node in ast.walk(tree):
                if isinstance(node, kind):
                    with self.subTest(file=stem, line=getattr(node, "lineno", 0)):
                        check(stem, node)

    def classes(self):
        return [node for stem, tree in self.trees.items() for node in tree.body if isinstance(node, ast.ClassDef)]

    def test_files(self):
        for path in PACKAGE.iterdir():
            if path.name != "__pycache__":
                self.assertRegex(path.name, r"^[a-z_][a-z0-9_]*\.py$")
        self.assertIn("__init__", self.texts)

    def test_signs_and_sizes(self):
        for stem, text in self.texts.items():
            self.assertLessEqual(text.count("\n"), 400, stem)
            for line in text.split("\n"):
                self.assertLessEqual(len(line), 120, line)
                self.assertRegex(line, r"^[ -~]*$")
                self.assertIsNone(NOT_WRITTEN.search(line), line)

    def test_imports(self):
        drawn = {stem: set() for stem in self.trees}

        def check(stem, node):
            self.assertRegex(node.module, r"^inkform\.[a-z_]+$")
            other = node.module.split(".")[1]
            drawn[stem].add(other)
            defined = top_names(ast.Module([n for n in self.trees[other].body if not isinstance(n, ast.ImportFrom)], []))
            for alias in node.names:
                self.assertIn(alias.name, defined)
                self.assertIsNone(alias.asname)

        self.each(ast.ImportFrom, check)
        for step in drawn:
            for stem in drawn:
                for other in list(drawn[stem]):
                    drawn[stem] |= drawn[other]
        for stem in drawn:
            self.assertNotIn(stem, drawn[stem])

    def test_tops(self):
        for stem, tree in self.trees.items():
            self.assertIsInstance(ast.get_docstring(tree), str)
            for node in tree.body[1:]:
                self.assertIsInstance(node, (ast.ImportFrom, ast.FunctionDef, ast.ClassDef, ast.Assign))
                if isinstance(node, ast.Assign):
                    for each in ast.walk(node.value):
                        self.assertIsInstance(each, SIMPLE_VALUES)
                    if isinstance(node.value, (ast.List, ast.Dict)):
                        for each in list(ast.walk(node.value))[1:]:
                            self.assertNotIsInstance(each, (ast.List, ast.Dict))
            names = top_names(tree)
            self.assertEqual(len(names), len(set(names)), stem)

    def test_nodes(self):
        def check(stem, node):
            self.assertIsInstance(node, NODES)
            if isinstance(node, ast.Constant):
                self.assertIsInstance(node.value, (int, str, type(None)))
                self.assertNotIn("%", str(node.value))
            if isinstance(node, (ast.For, ast.While)):
                self.assertEqual(node.orelse, [])
            if isinstance(node, ast.Assign):
                self.assertEqual(len(node.targets), 1)
            if isinstance(node, ast.ListComp):
                self.assertEqual(len(node.generators), 1)
                self.assertLessEqual(len(node.generators[0].ifs), 1)
            if isinstance(node, ast.Expr):
                self.assertTrue(isinstance(node.value, ast.Call) or node == self.trees[stem].body[0])
            if isinstance(node, ast.Compare) and isinstance(node.ops[0], (ast.Is, ast.IsNot)):
                self.assertIsInstance(node.comparators[0], ast.Constant)

        self.each(ast.AST, check)

    def test_functions(self):
        def check(stem, node):
            self.assertLessEqual(node.end_lineno - node.lineno + 1, 40)
            self.assertEqual(node.decorator_list, [])
            self.assertIsNone(node.args.vararg)
            self.assertIsNone(node.args.kwarg)
            self.assertEqual(node.args.kwonlyargs + node.args.posonlyargs, [])
            self.assertIsNone(node.returns)
            self.assertEqual([arg.arg for arg in node.args.args if arg.annotation], [])

        self.each(ast.FunctionDef, check)

    def test_names(self):
        for stem, tree in self.trees.items():
            tops = top_names(tree)
            kept = [n.name for n in tree.body if isinstance(n, ast.ClassDef)]
            kept += [alias.name for n in tree.body if isinstance(n, ast.ImportFrom) for alias in n.names]
            for node in [n for n in ast.walk(tree) if isinstance(n, ast.FunctionDef)]:
                bound = bound_names(node)
                self.assertEqual(bound & set(kept), set(), node.name)
                self.assertEqual(bound & set(dir(builtins)), set(), node.name)
                for each in ast.walk(node):
                    if isinstance(each, ast.Name) and isinstance(each.ctx, ast.Load):
                        self.assertIn(each.id, bound | set(tops) | OWN_NAMES, (stem, each.lineno))
            for node in ast.walk(tree):
                for word in (getattr(node, "id", None), getattr(node, "attr", None), getattr(node, "arg", None),
                             getattr(node, "name", None)):
                    if word is not None and word != "__init__":
                        self.assertRegex(word, r"^[A-Za-z][A-Za-z0-9_]*$")
                        self.assertNotIn(word, NOT_USED)

    def test_classes(self):
        methods, kept = set(), set()
        for node in self.classes():
            self.assertEqual(node.decorator_list + node.keywords, [])
            self.assertLessEqual(len(node.bases), 1)
            own = [each.name for each in node.body if isinstance(each, ast.FunctionDef)]
            self.assertEqual(len(own), len(set(own)))
            methods |= set(own)
            for each in node.body:
                self.assertIsInstance(each, (ast.FunctionDef, ast.Pass))
            for each in ast.walk(node):
                if isinstance(each, ast.Attribute) and isinstance(each.ctx, ast.Store):
                    kept.add(each.attr)
        self.assertEqual(methods & kept, set())
        free = set().union(*[dir(kind) for kind in (str, int, list, dict, set, bytes, tuple)]) - {"__init__"}
        self.assertEqual((methods | kept) & free, set())

    def test_calls(self):
        methods = {each.name for node in self.classes() for each in node.body if isinstance(each, ast.FunctionDef)}

        def check(stem, node):
            self.assertIsInstance(node.func, (ast.Name, ast.Attribute))
            if isinstance(node.func, ast.Attribute):
                self.assertIn(node.func.attr, methods | OWN_METHODS)
            for keyword in node.keywords:
                self.assertIn(keyword.arg, KEYWORDS.get(called_name(node), ()))

        self.each(ast.Call, check)

    def test_walked_on_the_spot(self):
        for stem, tree in self.trees.items():
            spots = set()
            for node in ast.walk(tree):
                if isinstance(node, (ast.For, ast.comprehension)):
                    spots.add(node.iter)
                if isinstance(node, ast.Call) and called_name(node) in OWN_NAMES and node.args:
                    spots.add(node.args[0])
            for node in ast.walk(tree):
                if isinstance(node, ast.Call) and called_name(node) in ("zip", "enumerate", "reversed", "range"):
                    self.assertIn(node, spots, (stem, node.lineno))
                if isinstance(node, ast.Call) and called_name(node) in ("set", "frozenset"):
                    self.fail((stem, node.lineno))


if __name__ == "__main__":
    unittest.main()
