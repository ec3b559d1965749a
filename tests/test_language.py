"""The package keeps to the rules of ../shared/LANGUAGE.md, as far as they can be read off the code."""

import ast
import builtins
import pathlib
import re
import unittest
import warnings

ROOT = pathlib.Path(__file__).resolve().parent.parent
PACKAGE = ROOT / "surenumbers"

BUILTINS = set(
    "len range enumerate zip min max sum abs sorted reversed int str bool bytes list tuple dict set frozenset "
    "isinstance ord repr any all divmod Exception ValueError TypeError KeyError IndexError LookupError "
    "ZeroDivisionError ArithmeticError OverflowError RuntimeError NotImplementedError AttributeError "
    "StopIteration NotImplemented super property staticmethod classmethod".split()
)
METHODS = set(
    "append clear copy count endswith extend find get index insert isalnum isalpha isdigit islower isspace "
    "isupper items join keys ljust lower lstrip partition pop remove replace reverse rfind rjust rpartition "
    "rsplit rstrip setdefault split splitlines startswith strip update upper values zfill bit_length title "
    "capitalize swapcase casefold center expandtabs removeprefix removesuffix rindex isascii isdecimal isnumeric "
    "istitle isidentifier isprintable sort add discard __init__".split()
)
DUNDER_METHODS = set("__init__ __eq__ __repr__ __str__ __len__ __enter__ __exit__ __call__ __iter__".split())
NAMES_NOWHERE = set("register mro elements open input version_info with_traceback add_note format format_map".split())
WORDS_NOWHERE = re.compile(
    r"\b(type|typing|typing_extensions|enum|Enum|IntEnum|StrEnum|Flag|IntFlag|Generic|Protocol|ABC|ABCMeta|namedtuple"
    r"|NamedTuple|TypedDict|TYPE_CHECKING|abstractmethod)\b|dataclass|overload|contextmanager"
)
STATEMENTS = (
    ast.FunctionDef, ast.ClassDef, ast.Return, ast.Delete, ast.Assign, ast.AugAssign, ast.AnnAssign, ast.For,
    ast.While, ast.If,
    ast.With, ast.Raise, ast.Try, ast.Assert, ast.ImportFrom, ast.Nonlocal, ast.Expr, ast.Pass, ast.Break,
    ast.Continue, ast.Match,
)
TAKES_GENERATORS = set("list tuple dict sorted".split())
FUNCTIONS = (ast.FunctionDef, ast.Lambda)


def source_files():
    return sorted(PACKAGE.glob("*.py"))


def tree_of(path):
    with warnings.catch_warnings():
        warnings.simplefilter("error")
        return ast.parse(path.read_text("utf-8"), str(path))


def top_names(tree):
    """The names bound at module level, as often as they are."""
    names = []
    for node in tree.body:
        if isinstance(node, (ast.FunctionDef, ast.ClassDef)):
            names.append(node.name)
        elif isinstance(node, ast.ImportFrom):
            names += [alias.asname or alias.name for alias in node.names]
        elif isinstance(node, ast.Assign):
            names += [target.id for target in node.targets]
    return names


def imported_names(tree):
    return {alias.name for row in tree.body if isinstance(row, ast.ImportFrom) for alias in row.names}


def local_names(tree):
    """The names that functions bind: parameters, variables, nested functions."""
    names = set()
    for function in [node for node in ast.walk(tree) if isinstance(node, FUNCTIONS)]:
        names |= {node.arg for node in ast.walk(function) if isinstance(node, ast.arg)}
        inner = function.body if isinstance(function.body, list) else [function.body]
        for row in inner:
            for node in ast.walk(row):
                if isinstance(node, ast.Name) and isinstance(node.ctx, ast.Store):
                    names.add(node.id)
                elif isinstance(node, ast.FunctionDef):
                    names.add(node.name)
                elif isinstance(node, ast.ExceptHandler) and node.name:
                    names.add(node.name)
    return names


def is_plain(node, names):
    """Whether a module-level value is plain: numbers, texts, tuples, lists, dicts, signs between them."""
    if isinstance(node, ast.Constant):
        return True
    if isinstance(node, ast.Name):
        return node.id in names
    if isinstance(node, (ast.Tuple, ast.List)):
        return all(is_plain(part, names) for part in node.elts)
    if isinstance(node, ast.Dict):
        return all(is_plain(part, names) for part in node.keys + node.values)
    if isinstance(node, ast.BinOp):
        return is_plain(node.left, names) and is_plain(node.right, names)
    return isinstance(node, ast.UnaryOp) and is_plain(node.operand, names)


def nodes_of(*kinds):
    """Each node of these kinds, behind the place where it stands."""
    found = []
    for path in source_files():
        for node in ast.walk(tree_of(path)):
            if isinstance(node, kinds):
                found.append((f"{path.name}:{getattr(node, 'lineno', 0)}", node))
    return found


def is_wrong_value(node):
    """L7, L27: numbers with a point, texts with the sign of rests."""
    return isinstance(node.value, (float, complex)) or isinstance(node.value, str) and "%" in node.value


def is_wrong_sign(node):
    """L7, L27: `/`, and exponents that are not literal numbers from 0 to 64."""
    if isinstance(node.op, ast.Pow):
        right = node.right if isinstance(node, ast.BinOp) else node.value
        return not (isinstance(right, ast.Constant) and right.value in range(65))
    return isinstance(node.op, (ast.Div, ast.MatMult))


def is_wrong_is(node):
    """L20: `is` of anything but None, True, False."""
    pairs = zip(node.ops, node.comparators)
    return any(isinstance(sign, (ast.Is, ast.IsNot)) and ast.unparse(other) not in ("None", "True", "False") for sign,
            other in pairs)


def is_wrong_generator(node):
    """L7: beside a class with __eq__ any, all, sum and the like take lists."""
    return any(isinstance(part,
            ast.GeneratorExp) for part in node.args) and ast.unparse(node.func) not in TAKES_GENERATORS


def is_wrong_function(node):
    """L4, L5: parameters ahead of a `/`, other decorators, other double-underscore methods."""
    decorators = {ast.unparse(decorator).split(".")[-1] for decorator in node.decorator_list}
    if node.args.posonlyargs or decorators - {"property", "setter", "staticmethod", "classmethod"}:
        return True
    return node.name.startswith("_") and node.name not in DUNDER_METHODS


def is_simple(node):
    """L6: what may be assigned in a `finally`, as far as this package has it."""
    return isinstance(node, (ast.Name, ast.Attribute, ast.Constant))


def is_wrong_finally(node):
    """L6: rows of a `finally` that do more than assign or count."""
    return any(not isinstance(row, (ast.Assign, ast.AugAssign)) or not is_simple(row.value) for row in node.finalbody)


def is_wrong_raise(node):
    """L19: an error is made on the spot, and comes from None or a name."""
    if node.exc is not None and not (isinstance(node.exc, ast.Call) and isinstance(node.exc.func, ast.Name)):
        return True
    return node.cause is not None and not isinstance(node.cause, (ast.Name, ast.Constant))


def methods_and_attributes():
    """The names of all methods, and of all attributes that are assigned."""
    rows = [row for place, node in nodes_of(ast.ClassDef) for row in node.body]
    methods = {row.name for row in rows if isinstance(row, ast.FunctionDef)}
    attributes = {node.attr for place, node in nodes_of(ast.Attribute) if isinstance(node.ctx, ast.Store)}
    return methods, attributes


class TestLanguage(unittest.TestCase):
    def assert_none(self, is_wrong, *kinds):
        self.assertEqual([(place, ast.unparse(node)) for place, node in nodes_of(*kinds) if is_wrong(node)], [])

    def test_files(self):
        """L1, L14: nothing but files of plain names."""
        self.assertTrue((PACKAGE / "__init__.py").is_file())
        for path in PACKAGE.iterdir():
            if path.name == "__pycache__":
                continue
            self.assertRegex(path.name, r"^([a-z][a-z0-9_]*|__init__)\.py$")
            self.assertNotIn(path.stem, dir(builtins))
            self.assertNotRegex(path.stem,
                    r"^(law_.*|tests?|testing|test_.*|site|conftest|sitecustomize|usercustomize)$")

    def test_signs_and_lengths(self):
        """L10, L14, L17, L27."""
        for path in source_files():
            text = path.read_text("utf-8")
            with self.subTest(path.name):
                self.assertRegex(text, r"\A[ -~\n]*\Z")
                self.assertLessEqual(text.count("\n"), 400)
                self.assertLessEqual(max(len(row) for row in text.split("\n")), 120)
                self.assertIsNone(WORDS_NOWHERE.search(text))
                self.assertNotRegex(text, r"\\[^nt\\'\"]")

    def test_function_lengths(self):
        """L10."""
        self.assert_none(lambda node: node.end_lineno - node.lineno >= 40, ast.FunctionDef)

    def test_imports(self):
        """L2, L16: from files of the package, in one direction, at the top, only what that file itself defines."""
        graph = {}
        for path in source_files():
            tree = tree_of(path)
            graph[path.stem] = []
            behind = [node.lineno for node in tree.body if not isinstance(node, (ast.ImportFrom, ast.Expr))]
            for node in [node for node in ast.walk(tree) if isinstance(node, (ast.Import, ast.ImportFrom))]:
                with self.subTest(path.name, line=node.lineno):
                    self.assertIsInstance(node, ast.ImportFrom)
                    self.assertEqual(node.level, 0)
                    self.assertRegex(node.module, r"^surenumbers\.[a-z]+$")
                    self.assertLess(node.lineno, min(behind + [10 ** 6]))
                    source = node.module.split(".")[1]
                    graph[path.stem].append(source)
                    rows = tree_of(PACKAGE / (source + ".py")).body
                    defined = top_names(ast.Module([row for row in rows if not isinstance(row, ast.ImportFrom)], []))
                    self.assertEqual([alias.name for alias in node.names if alias.name not in defined or alias.asname],
                            [])
        self.assertEqual(graph["__init__"], [])
        while graph:
            free = [name for name in graph if not any(source in graph for source in graph[name])]
            self.assertTrue(free, "files import from each other: " + ", ".join(graph))
            for name in free:
                del graph[name]

    def test_imports_are_used(self):
        for path in source_files():
            tree = tree_of(path)
            read = {node.id for node in ast.walk(tree) if isinstance(node, ast.Name)}
            self.assertEqual(imported_names(tree) - read, set(), path.name)

    def test_module_level(self):
        """L3, L15: plain values, each name bound once."""
        for path in source_files():
            tree = tree_of(path)
            bound = top_names(tree)
            with self.subTest(path.name):
                self.assertEqual(len(bound), len(set(bound)))
            for at, node in enumerate(tree.body):
                with self.subTest(path.name, line=node.lineno):
                    self.assertIsInstance(node, (ast.FunctionDef, ast.ClassDef, ast.ImportFrom, ast.Assign, ast.Expr))
                    if isinstance(node, ast.Expr):
                        self.assertEqual(at, 0)
                        self.assertIsInstance(node.value.value, str)
                    if isinstance(node, ast.Assign):
                        above = [row for row in tree.body[:at] if not isinstance(row, (ast.ImportFrom, ast.ClassDef))]
                        self.assertEqual(len(node.targets), 1)
                        self.assertTrue(is_plain(node.value, top_names(ast.Module(above, []))))

    def test_statements(self):
        """L6, L19: the listed ones; errors are caught by their names."""
        self.assert_none(lambda node: not isinstance(node, STATEMENTS), ast.stmt)
        self.assert_none(lambda node: node.type is None, ast.ExceptHandler)

    def test_errors(self):
        """L6, L19."""
        self.assert_none(is_wrong_finally, ast.Try)
        self.assert_none(is_wrong_raise, ast.Raise)

    def test_methods_and_attributes(self):
        """L18, L26: no name is both, none is one that values of Python's own have."""
        methods, attributes = methods_and_attributes()
        own = {name for kind in (str, int, list, dict, set, bytes) for name in dir(kind)}
        self.assertEqual(methods & attributes, set())
        self.assertEqual({name for name in (methods | attributes) & own if not name.startswith("__")}, set())

    def test_functions_and_classes(self):
        """L4, L5."""
        self.assert_none(is_wrong_function, ast.FunctionDef)
        self.assert_none(lambda node: node.decorator_list or node.keywords, ast.ClassDef)

    def test_names(self):
        """L8, L12, L15, L17: known names, none with an underscore ahead, none of a builtin's name."""
        for path in source_files():
            tree = tree_of(path)
            top = set(top_names(tree))
            local = local_names(tree)
            with self.subTest(path.name):
                self.assertEqual((top | local) & (set(dir(builtins)) | NAMES_NOWHERE), set())
                self.assertEqual([name for name in top | local if name.startswith("_")], [])
                classes = {row.name for row in tree.body if isinstance(row, ast.ClassDef)}
                self.assertEqual(local & (imported_names(tree) | classes), set())
                read = {node.id for node in ast.walk(tree) if isinstance(node, ast.Name)}
                self.assertEqual(read - top - local - BUILTINS, set())

    def test_methods(self):
        """L25, L26: only the listed methods, and own ones."""
        own = {node.name for place, node in nodes_of(ast.FunctionDef)}
        self.assert_none(
            lambda node: isinstance(node.func, ast.Attribute) and node.func.attr not in METHODS | own, ast.Call)
        self.assert_none(lambda node: node.attr in NAMES_NOWHERE, ast.Attribute)

    def test_values(self):
        """L7, L20, L24, L27; no sets are kept at all."""
        self.assert_none(is_wrong_value, ast.Constant)
        self.assert_none(is_wrong_sign, ast.BinOp, ast.AugAssign)
        self.assert_none(is_wrong_is, ast.Compare)
        self.assert_none(is_wrong_generator, ast.Call)
        self.assert_none(lambda node: True, ast.Set, ast.SetComp)

    def test_table_calls(self):
        """L3: a function of a table is given a name before it is called."""
        self.assert_none(lambda node: not isinstance(node.func, (ast.Name, ast.Attribute)), ast.Call)


if __name__ == "__main__":
    unittest.main()
