"""The package's files keep to the rules of LANGUAGE.md that can be seen in their syntax."""

import ast
import builtins
import pathlib
import re
import unittest

ROOT = pathlib.Path(__file__).resolve().parent.parent / "copykin"

OWN_OF_PYTHON = set(
    "len range enumerate zip min max sum abs sorted reversed int str bool list tuple dict set frozenset isinstance ord"
    " repr any all divmod Exception ValueError TypeError KeyError IndexError LookupError ZeroDivisionError"
    " ArithmeticError OverflowError RuntimeError NotImplementedError AttributeError StopIteration".split())
TWO_UNDERSCORES = set("__init__ __eq__ __repr__ __str__ __len__".split())
METHODS = set(
    "append clear copy count endswith extend find get index insert isalnum isalpha isdigit islower isspace isupper"
    " items join keys ljust lower lstrip partition pop remove replace reverse rfind rjust rpartition rsplit rstrip"
    " setdefault split splitlines startswith strip update upper values zfill bit_length".split())
CHANGES = set("append clear extend insert pop remove reverse setdefault update".split())
WORDS = re.compile(
    r"\b(type|typing|typing_extensions|enum|Enum|IntEnum|StrEnum|Flag|IntFlag|Generic|Protocol|ABC|ABCMeta|namedtuple"
    r"|NamedTuple|TypedDict|TYPE_CHECKING|abstractmethod)\b|dataclass|overload|contextmanager")
OUT = (
    ast.With, ast.Match, ast.Delete, ast.Global, ast.Nonlocal, ast.Assert, ast.Yield, ast.YieldFrom, ast.Await,
    ast.AsyncFunctionDef, ast.AsyncFor, ast.AsyncWith, ast.SetComp, ast.DictComp, ast.GeneratorExp, ast.NamedExpr,
    ast.Starred, ast.Div, ast.MatMult, ast.Import, ast.AnnAssign,
)
KEYWORDS = {
    "sorted": {"key", "reverse"}, "min": {"key", "default"}, "max": {"key", "default"}, "sum": {"start"},
    "enumerate": {"start"}, "zip": {"strict"},
}
WALKED = set("zip enumerate reversed range".split())
VIEWS = set("items keys values".split())
WALKERS = set("list tuple dict sorted sum any all enumerate zip min max".split())
NO_NAMES = set(
    "register mro elements open input version_info with_traceback add_note attrgetter breakpoint builtins compile"
    " copyright credits delattr dir eval exec exit gc getattr globals hasattr help id importlib license locals"
    " methodcaller os quit setattr super type vars sys __name__".split())
NO_VALUES = set(
    "items keys values pop update append clear extend insert remove reverse setdefault sort args encode format".split())
PLAIN_TOP = (ast.ImportFrom, ast.FunctionDef, ast.ClassDef, ast.Assign)


def files():
    return sorted(path for path in ROOT.rglob("*") if "__pycache__" not in path.parts)


def trees():
    return [(path, ast.parse(path.read_text("utf-8"))) for path in files() if path.is_file()]


def called(node):
    """The name of Python's own or of a method that is called here, or a text without signs."""
    if not isinstance(node, ast.Call):
        return ""
    return node.func.attr if isinstance(node.func, ast.Attribute) else getattr(node.func, "id", "")


def around(tree):
    """Each node with the one that it stands in."""
    return [(node, part) for node in ast.walk(tree) for part in ast.iter_child_nodes(node)]


def is_docstring(node):
    return isinstance(node, ast.Expr) and isinstance(node.value, ast.Constant) and isinstance(node.value.value, str)


def bound(tree):
    """The names that a file binds at its top, in their order."""
    names = []
    for node in tree.body:
        if isinstance(node, ast.ImportFrom):
            names += [alias.asname or alias.name for alias in node.names]
        elif isinstance(node, (ast.FunctionDef, ast.ClassDef)):
            names.append(node.name)
        elif isinstance(node, ast.Assign):
            names += [target.id for target in node.targets]
    return names


def locals_of(tree):
    """The names of parameters and of whatever a function or comprehension gives a value."""
    names = [node.arg for node in ast.walk(tree) if isinstance(node, ast.arg)]
    tops = [target for node in tree.body if isinstance(node, ast.Assign) for target in node.targets]
    return names + [node.id for node in ast.walk(tree)
                    if isinstance(node, ast.Name) and isinstance(node.ctx, ast.Store) and node not in tops]


class Language(unittest.TestCase):
    def test_files(self):
        self.assertIn(ROOT / "__init__.py", files())
        for path in files():
            self.assertTrue(path.is_file() and re.fullmatch(r"[a-z][a-z0-9_]*\.py|__init__\.py", path.name), path)
            self.assertNotIn(path.stem, dir(builtins))

    def test_signs_and_sizes(self):
        for path in files():
            text = path.read_bytes().decode("ascii")
            self.assertTrue(all(sign == "\n" or " " <= sign <= "~" for sign in text), path)
            rows = text.splitlines()
            self.assertLessEqual(len(rows), 400, path)
            self.assertLessEqual(max(len(row) for row in rows), 120, path)
            self.assertIsNone(WORDS.search(text), path)

    def test_the_top_of_each_file(self):
        for path, tree in trees():
            self.assertTrue(is_docstring(tree.body[0]), path)
            for node in tree.body[1:]:
                self.assertIsInstance(node, PLAIN_TOP, path)
            names = bound(tree)
            self.assertEqual(len(names), len(set(names)), path)

    def test_imports(self):
        own = {"copykin." + path.stem: set(bound(tree)) for path, tree in trees()}
        drawn = {name: set() for name in own}
        for path, tree in trees():
            for node in ast.walk(tree):
                if isinstance(node, ast.ImportFrom):
                    self.assertEqual(node.level, 0, path)
                    self.assertIn(node.module, own, path)
                    drawn["copykin." + path.stem].add(node.module)
                    for alias in node.names:
                        self.assertIn(alias.name, own[node.module], path)
        while drawn:
            free = [name for name in drawn if not drawn[name] & set(drawn)]
            self.assertTrue(free, "files draw from one another")
            drawn = {name: drawn[name] for name in drawn if name not in free}

    def test_syntax(self):
        for path, tree in trees():
            for node in ast.walk(tree):
                where = (path.name, getattr(node, "lineno", 0), ast.dump(node)[:60])
                self.assertNotIsInstance(node, OUT, where)
                if isinstance(node, ast.Constant):
                    self.assertNotIsInstance(node.value, (float, complex, bytes), where)
                if isinstance(node, (ast.For, ast.While)):
                    self.assertFalse(node.orelse, where)
                if isinstance(node, ast.Try):
                    self.assertFalse(node.finalbody, where)
                if isinstance(node, ast.Assign):
                    self.assertEqual(len(node.targets), 1, where)
                if isinstance(node, ast.ListComp):
                    self.assertEqual(len(node.generators), 1, where)
                    self.assertLessEqual(len(node.generators[0].ifs), 1, where)
                if isinstance(node, ast.Compare) and any(isinstance(op, (ast.Is, ast.IsNot)) for op in node.ops):
                    sides = [node.left] + node.comparators
                    self.assertTrue(any(isinstance(part, ast.Constant) and part.value in (None, True, False)
                                        for part in sides), where)

    def test_functions_and_classes(self):
        for path, tree in trees():
            for node in ast.walk(tree):
                if isinstance(node, ast.FunctionDef):
                    self.assertLessEqual(node.end_lineno - node.lineno + 1, 40, node.name)
                    self.assertFalse(node.decorator_list or node.args.vararg or node.args.kwarg, node.name)
                    self.assertFalse(node.args.kwonlyargs or node.args.posonlyargs, node.name)
                if isinstance(node, ast.ClassDef):
                    self.assertFalse(node.decorator_list or node.keywords or len(node.bases) > 1, node.name)
                    for part in node.body:
                        self.assertTrue(isinstance(part, ast.FunctionDef) or is_docstring(part), node.name)

    def test_names(self):
        for path, tree in trees():
            tops = [name for name in bound(tree)]
            given = locals_of(tree)
            own = set(tops) | set(given)
            for name in own:
                self.assertRegex(name, r"\A[A-Za-z][A-Za-z0-9_]*\Z", path)
                self.assertFalse(hasattr(builtins, name), (path.name, name))
            imports_and_classes = [name for node in tree.body if isinstance(node, (ast.ImportFrom, ast.ClassDef))
                                   for name in bound(ast.Module([node], []))]
            self.assertFalse(set(given) & set(imports_and_classes), path)
            for node in ast.walk(tree):
                if isinstance(node, ast.Name) and node.id not in own:
                    self.assertIn(node.id, OWN_OF_PYTHON, (path.name, node.lineno))

    def test_keywords(self):
        classes = {node.name for path, tree in trees() for node in tree.body if isinstance(node, ast.ClassDef)}
        for path, tree in trees():
            for node in ast.walk(tree):
                if not isinstance(node, ast.Call):
                    continue
                name = node.func.attr if isinstance(node.func, ast.Attribute) else getattr(node.func, "id", "")
                if name in OWN_OF_PYTHON | METHODS | classes:
                    given = {keyword.arg for keyword in node.keywords}
                    self.assertLessEqual(given, KEYWORDS.get(name, set()), (path.name, node.lineno))

    def test_texts(self):
        for path, tree in trees():
            for node in ast.walk(tree):
                if isinstance(node, ast.Constant) and isinstance(node.value, str):
                    self.assertNotIn("%", node.value, (path.name, node.lineno))
                if isinstance(node, ast.FormattedValue):
                    self.assertIsInstance(node.value, ast.Name, (path.name, node.lineno))
                    self.assertIsNone(node.format_spec, (path.name, node.lineno))

    def test_nothing_that_is_walked_is_changed(self):
        for path, tree in trees():
            for loop in ast.walk(tree):
                if not isinstance(loop, ast.For):
                    continue
                walked = {node.id for node in ast.walk(loop.iter) if isinstance(node, ast.Name)}
                for node in [node for part in loop.body for node in ast.walk(part)]:
                    if isinstance(node, ast.Subscript) and isinstance(node.ctx, ast.Store):
                        self.assertNotIn(getattr(node.value, "id", None), walked, (path.name, node.lineno))
                    if isinstance(node, ast.Attribute) and node.attr in CHANGES:
                        self.assertNotIn(getattr(node.value, "id", None), walked, (path.name, node.lineno))

    def test_what_is_walked_at_once(self):
        for path, tree in trees():
            for ahead, node in around(tree):
                method = isinstance(getattr(node, "func", None), ast.Attribute)
                if called(node) not in (VIEWS if method else WALKED):
                    continue
                walked = isinstance(ahead, (ast.For, ast.comprehension)) and ahead.iter is node
                walked |= called(ahead) in WALKERS and node in ahead.args
                self.assertTrue(walked, (path.name, node.lineno))

    def test_sets(self):
        for path, tree in trees():
            for ahead, node in around(tree):
                self.assertNotIsInstance(node, ast.Set, path.name)
                if called(node) in ("set", "frozenset"):
                    good = called(ahead) in ("sorted", "len") and not ahead.keywords
                    good |= isinstance(ahead, ast.Compare) and isinstance(ahead.ops[0], (ast.In, ast.NotIn))
                    self.assertTrue(good, (path.name, node.lineno))

    def test_nothing_is_kept_at_the_top(self):
        for path, tree in trees():
            kept = [node.targets[0].id for node in tree.body
                    if isinstance(node, ast.Assign) and isinstance(node.value, (ast.List, ast.Dict))]
            for node in [node for node in tree.body if isinstance(node, ast.Assign)]:
                inner = [part for part in ast.walk(node.value) if part is not node.value]
                self.assertFalse([part for part in inner if isinstance(part, (ast.List, ast.Dict, ast.Call))], path)
            for ahead, node in around(tree):
                if isinstance(node, ast.Name) and isinstance(node.ctx, ast.Load) and node.id in kept:
                    read = isinstance(ahead, ast.Subscript) and isinstance(ahead.ctx, ast.Load)
                    read |= isinstance(ahead, (ast.Compare, ast.For, ast.comprehension))
                    read |= called(ahead) in ("len", "list", "dict", "sorted")
                    read |= isinstance(ahead, ast.Attribute) and ahead.attr in ("get", "items", "keys", "values")
                    self.assertTrue(read, (path.name, node.lineno))

    def test_names_that_are_not_used(self):
        for path, tree in trees():
            for node in ast.walk(tree):
                name = getattr(node, "id", getattr(node, "attr", getattr(node, "arg", getattr(node, "name", None))))
                self.assertNotIn(name, NO_NAMES, path.name)

    def test_methods_and_values(self):
        methods = set()
        values = set()
        for path, tree in trees():
            for node in ast.walk(tree):
                if isinstance(node, ast.ClassDef):
                    methods |= {part.name for part in node.body if isinstance(part, ast.FunctionDef)}
                if isinstance(node, ast.Attribute) and isinstance(node.ctx, ast.Store):
                    self.assertEqual(getattr(node.value, "id", ""), "self", (path.name, node.lineno))
                    values.add(node.attr)
        self.assertFalse(methods & values)
        self.assertFalse(values & NO_VALUES)
        of_python = {name for kind in (str, int, list, dict, set, bytes) for name in dir(kind)}
        self.assertFalse((methods - TWO_UNDERSCORES - METHODS - {"add", "discard"}) & of_python)

    def test_raised_on_the_spot(self):
        for path, tree in trees():
            for node in ast.walk(tree):
                if isinstance(node, ast.Raise):
                    self.assertIsInstance(node.exc, ast.Call, (path.name, node.lineno))

    def test_attributes(self):
        own = set(TWO_UNDERSCORES)
        for path, tree in trees():
            for node in ast.walk(tree):
                if isinstance(node, ast.ClassDef):
                    methods = [part.name for part in node.body if isinstance(part, ast.FunctionDef)]
                    self.assertEqual(len(methods), len(set(methods)), node.name)
                    own |= set(methods)
                if isinstance(node, ast.Attribute) and isinstance(node.ctx, ast.Store):
                    own.add(node.attr)
        for path, tree in trees():
            for node in ast.walk(tree):
                if isinstance(node, ast.Attribute):
                    self.assertIn(node.attr, METHODS | own, (path.name, node.lineno))
                    self.assertFalse(node.attr.startswith("_") and node.attr not in TWO_UNDERSCORES, path.name)


if __name__ == "__main__":
    unittest.main()
