"""The files of the package keep to the subset of Python that it is written in, as far as a short
look at each file can tell."""

import ast
import builtins
import re
import unittest
from pathlib import Path

PACKAGE = Path(__file__).resolve().parent.parent / "pointhouse"
FILES = sorted(path for path in PACKAGE.rglob("*") if path.is_file() and "__pycache__" not in path.parts)

BUILTINS = set(
    "len range enumerate zip min max sum abs sorted reversed int str bool bytes list tuple dict set frozenset "
    "isinstance ord repr any all divmod pow getattr hasattr setattr iter next map Exception ValueError TypeError "
    "KeyError IndexError LookupError ZeroDivisionError ArithmeticError OverflowError RuntimeError "
    "NotImplementedError AttributeError StopIteration NotImplemented super property staticmethod classmethod".split()
)
LIBRARY = {
    "heapq": {"heappush", "heappop", "heapify", "heapreplace", "heappushpop"},
    "math": {"gcd", "lcm", "isqrt", "comb", "perm", "factorial"},
    "itertools": {"product", "combinations", "permutations", "chain", "accumulate", "pairwise", "islice", "zip_longest"},
    "collections": {"defaultdict"},
}
METHODS = set(
    "append clear copy count endswith extend find get index insert isalnum isalpha isdigit islower isspace isupper "
    "items join keys ljust lower lstrip partition pop remove replace reverse rfind rjust rpartition rsplit rstrip "
    "setdefault split splitlines startswith strip update upper values zfill bit_length title capitalize swapcase "
    "casefold center expandtabs removeprefix removesuffix rindex isascii isdecimal isnumeric istitle isidentifier "
    "isprintable add discard sort format __init__ from_iterable translate".split()
)
DOUBLE = set(
    "__init__ __eq__ __repr__ __str__ __len__ __enter__ __exit__ __call__ __iter__ __lt__ __le__ __gt__ __ge__ __ne__ "
    "__add__ __sub__ __mul__ __neg__ __bool__ __contains__ __getitem__ __setitem__".split()
)
NOWHERE = set("register mro elements open input law version_info with_traceback add_note".split())
NO_NAMES = set(
    "attrgetter breakpoint builtins compile copyright credits delattr dir eval exec exit gc globals help id importlib "
    "license locals methodcaller os quit sys type vars __name__".split()
)
NO_WORDS = re.compile(
    r"\b(type|typing|typing_extensions|enum|Enum|IntEnum|StrEnum|Flag|IntFlag|Generic|Protocol|ABC|ABCMeta|namedtuple|"
    r"NamedTuple|TypedDict|TYPE_CHECKING|abstractmethod)\b|dataclass|overload|contextmanager"
)
STATEMENTS = (
    ast.Assign, ast.AugAssign, ast.AnnAssign, ast.If, ast.While, ast.For, ast.Return, ast.Break, ast.Continue, ast.Pass,
    ast.Raise, ast.Assert, ast.Delete, ast.Nonlocal, ast.Match, ast.With, ast.Try, ast.Expr, ast.FunctionDef,
)
SAFE_HANDLERS = {"KeyError", "ZeroDivisionError", "StopIteration", "ValueError", "LookupError", "IndexError"}


def trees():
    return [(path, ast.parse(path.read_text())) for path in FILES]


def nodes(*kinds):
    return [(path.name, node) for path, tree in trees() for node in ast.walk(tree) if isinstance(node, kinds)]


def without_docstrings(tree):
    for node in ast.walk(tree):
        if isinstance(node, (ast.Module, ast.ClassDef, ast.FunctionDef)) and ast.get_docstring(node) is not None:
            node.body = node.body[1:] or [ast.Pass()]
    return tree


def bound_names(tree):
    """Names of variables, functions, classes, imports, parameters and caught errors."""
    for node in ast.walk(tree):
        if isinstance(node, ast.Name) and isinstance(node.ctx, (ast.Store, ast.Del)):
            yield node.id, node.lineno
        elif isinstance(node, ast.arg):
            yield node.arg, node.lineno
        elif isinstance(node, (ast.FunctionDef, ast.ClassDef)):
            yield node.name, node.lineno
        elif isinstance(node, ast.alias):
            yield node.asname or node.name, node.lineno
        elif isinstance(node, ast.ExceptHandler) and node.name:
            yield node.name, node.lineno


class Files(unittest.TestCase):
    def test_names(self):
        self.assertTrue((PACKAGE / "__init__.py").is_file())
        self.assertLessEqual(len(FILES), 100)
        for path in FILES:
            self.assertEqual(path.suffix, ".py")
            self.assertRegex(path.stem, r"^(__init__|__main__|[a-z][a-z0-9_]*)$")
            self.assertFalse(path.stem != "__init__" and hasattr(builtins, path.stem), path.name)

    def test_size_and_characters(self):
        for path in FILES:
            text = path.read_bytes().decode("ascii")
            self.assertIsNone(re.search(r"[^ -~\n]", text), path.name)
            lines = text.split("\n")
            self.assertLess(len(lines), 400, path.name)
            self.assertLessEqual(max(map(len, lines)), 120, path.name)
        for name, node in nodes(ast.FunctionDef):
            self.assertLessEqual(node.end_lineno - node.lineno, 39, (name, node.name))

    def test_module_level(self):
        for path, tree in trees():
            body = tree.body[1:] if ast.get_docstring(tree) is not None else tree.body
            for node in body:
                self.assertIsInstance(node, (ast.ImportFrom, ast.FunctionDef, ast.ClassDef, ast.Assign), path.name)
                if isinstance(node, ast.Assign):
                    self.assertEqual([type(target) for target in node.targets], [ast.Name])
                    self.assertFalse([part for part in ast.walk(node.value) if isinstance(part, (ast.Call, ast.BinOp))])

    def test_each_name_is_bound_once(self):
        for path, tree in trees():
            names = []
            for node in tree.body:
                if isinstance(node, ast.ImportFrom):
                    names += [alias.name for alias in node.names]
                elif isinstance(node, (ast.FunctionDef, ast.ClassDef)):
                    names.append(node.name)
                elif isinstance(node, ast.Assign):
                    names.append(node.targets[0].id)
            self.assertEqual(len(names), len(set(names)), path.name)
            inner = {node.arg for node in ast.walk(tree) if isinstance(node, ast.arg)}
            inner |= {node.id for function in ast.walk(tree) if isinstance(function, ast.FunctionDef)
                      for node in ast.walk(function) if isinstance(node, ast.Name) and isinstance(node.ctx, ast.Store)}
            capitals = {name for name in names if name[0].isupper()}
            imported = {alias.name for node in tree.body if isinstance(node, ast.ImportFrom) for alias in node.names}
            self.assertFalse(inner & (capitals | imported), path.name)


class Imports(unittest.TestCase):
    def test_form(self):
        defined = {}
        for path, tree in trees():
            defined[path.stem] = {node.name for node in tree.body if isinstance(node, (ast.FunctionDef, ast.ClassDef))}
            defined[path.stem] |= {node.targets[0].id for node in tree.body if isinstance(node, ast.Assign)}
        self.assertFalse(nodes(ast.Import))
        for name, node in nodes(ast.ImportFrom):
            self.assertEqual(node.level, 0, name)
            self.assertFalse([alias for alias in node.names if alias.asname or alias.name == "*"], name)
            names = {alias.name for alias in node.names}
            if node.module in LIBRARY:
                self.assertLessEqual(names, LIBRARY[node.module], name)
            else:
                home, _, file = node.module.partition(".")
                self.assertEqual(home, "pointhouse", name)
                self.assertLessEqual(names, defined[file], name)

    def test_stand_at_the_top(self):
        for path, tree in trees():
            body = tree.body[1:] if ast.get_docstring(tree) is not None else tree.body
            kinds = [isinstance(node, ast.ImportFrom) for node in body]
            self.assertEqual(kinds, sorted(kinds, reverse=True), path.name)
            self.assertEqual(sum(kinds), sum(isinstance(node, ast.ImportFrom) for node in ast.walk(tree)), path.name)

    def test_no_circles(self):
        wants = {path.stem: {node.module.partition(".")[2] for node in tree.body if isinstance(node, ast.ImportFrom)
                             and node.module.startswith("pointhouse.")} for path, tree in trees()}
        while wants:
            free = [name for name, others in wants.items() if not others & set(wants)]
            self.assertTrue(free, wants)
            for name in free:
                del wants[name]

    def test_all_that_is_imported_is_used(self):
        for path, tree in trees():
            used = {node.id for node in ast.walk(tree) if isinstance(node, ast.Name)}
            for node in tree.body:
                if isinstance(node, ast.ImportFrom):
                    self.assertLessEqual({alias.name for alias in node.names}, used, path.name)


class Names(unittest.TestCase):
    def test_form(self):
        for path, tree in trees():
            for name, line in bound_names(tree):
                where = (path.name, line, name)
                self.assertTrue(name == "_" or name in DOUBLE or re.match(r"^_?[A-Za-z][A-Za-z0-9_]*$", name), where)
                self.assertNotIn(name, NOWHERE | NO_NAMES, where)
                self.assertIsNone(re.match(r"_(wall|pe_|dcw_|enum_|cm_|twin_re_|lay_|law_|stub_|sre)", name), where)

    def test_no_builtin_is_given_another_meaning(self):
        for path, tree in trees():
            methods = {node.lineno for kind in ast.walk(tree) if isinstance(kind, ast.ClassDef) for node in kind.body
                       if isinstance(node, ast.FunctionDef)}
            for name, line in bound_names(tree):
                if line not in methods:
                    self.assertFalse(hasattr(builtins, name), (path.name, line, name))

    def test_just_the_builtins_told(self):
        for path, tree in trees():
            own = {name for name, _ in bound_names(tree)}
            for node in ast.walk(tree):
                if isinstance(node, ast.Name) and isinstance(node.ctx, ast.Load) and node.id not in own:
                    self.assertIn(node.id, BUILTINS, (path.name, node.lineno))

    def test_attributes(self):
        own = {node.name for _, node in nodes(ast.FunctionDef)}
        kept = {node.attr for _, node in nodes(ast.Attribute) if isinstance(node.ctx, ast.Store)}
        for name, node in nodes(ast.Attribute):
            self.assertNotIn(node.attr, NOWHERE, (name, node.lineno))
            self.assertIn(node.attr, own | kept | METHODS | {"__class__", "__name__"}, (name, node.lineno))

    def test_words(self):
        for path in FILES:
            self.assertNotIn("_wall", path.read_text())
            self.assertNotIn("_WallAttr", path.read_text())
            self.assertIsNone(NO_WORDS.search(ast.unparse(without_docstrings(ast.parse(path.read_text())))), path.name)

    def test_no_name_is_a_method_and_an_attribute_of_a_class(self):
        for name, node in nodes(ast.ClassDef):
            methods = [part.name for part in node.body if isinstance(part, ast.FunctionDef)]
            kept = {part.attr for part in ast.walk(node) if isinstance(part, ast.Attribute)
                    and isinstance(part.ctx, ast.Store)}
            self.assertEqual(len(methods), len(set(methods)), name)
            self.assertFalse(kept & set(methods), name)


class Code(unittest.TestCase):
    def test_statements(self):
        for name, node in nodes(ast.FunctionDef):
            for part in ast.walk(node):
                if isinstance(part, ast.stmt):
                    self.assertIsInstance(part, STATEMENTS, (name, part.lineno))
        self.assertFalse(nodes(ast.Global, ast.AsyncFunctionDef, ast.Await, ast.AsyncFor, ast.AsyncWith))

    def test_classes(self):
        for name, node in nodes(ast.ClassDef):
            self.assertFalse(node.decorator_list or node.keywords, name)
            for part in node.body:
                self.assertIsInstance(part, (ast.FunctionDef, ast.Assign, ast.Expr), name)

    def test_decorators_and_defaults(self):
        for name, node in nodes(ast.FunctionDef):
            for mark in node.decorator_list:
                self.assertIn(ast.unparse(mark).partition(".")[2] or ast.unparse(mark),
                              ("property", "setter", "staticmethod", "classmethod"), name)
            for default in node.args.defaults + [part for part in node.args.kw_defaults if part is not None]:
                for part in ast.walk(default):
                    self.assertNotIsInstance(part, (ast.Call, ast.List, ast.Dict, ast.Compare), (name, node.lineno))

    def test_no_numbers_with_a_point(self):
        for name, node in nodes(ast.Constant):
            self.assertNotIsInstance(node.value, (float, complex), (name, node.lineno))
        self.assertFalse(nodes(ast.Div))

    def test_powers(self):
        for name, node in nodes(ast.BinOp):
            if isinstance(node.op, ast.Pow):
                self.assertIsInstance(node.right, ast.Constant, (name, node.lineno))
                self.assertIn(node.right.value, range(65), (name, node.lineno))

    def test_strings(self):
        for path, tree in trees():
            for node in ast.walk(tree):
                if isinstance(node, ast.Constant) and isinstance(node.value, str):
                    self.assertNotIn("%", node.value, (path.name, node.lineno))
                    self.assertFalse(node.value.endswith(("._", ".__")), (path.name, node.lineno))
            self.assertIsNone(re.search(r"\\[^nt\\'\"]", path.read_text()), path.name)

    def test_is(self):
        for name, node in nodes(ast.Compare):
            for mark, other in zip(node.ops, node.comparators):
                if isinstance(mark, (ast.Is, ast.IsNot)):
                    self.assertIn(ast.unparse(other), ("None", "True", "False"), (name, node.lineno))

    def test_errors(self):
        own = {node.name for _, node in nodes(ast.ClassDef)}
        for name, node in nodes(ast.Raise):
            if node.exc is not None:
                self.assertIsInstance(node.exc, ast.Call, (name, node.lineno))
                self.assertIn(ast.unparse(node.exc.func), own, (name, node.lineno))
        for name, node in nodes(ast.ExceptHandler):
            self.assertIsNotNone(node.type, (name, node.lineno))
            kinds = node.type.elts if isinstance(node.type, ast.Tuple) else [node.type]
            for kind in kinds:
                self.assertIn(ast.unparse(kind), own | SAFE_HANDLERS, (name, node.lineno))

    def test_any_and_all_take_lists(self):
        for name, node in nodes(ast.Call):
            if isinstance(node.func, ast.Name) and node.func.id in ("any", "all", "min", "max", "sum", "sorted"):
                for part in node.args:
                    self.assertNotIsInstance(part, ast.GeneratorExp, (name, node.lineno))

    def test_stars_in_calls_stand_before_plain_things(self):
        plain = (ast.Name, ast.Constant, ast.Attribute, ast.Tuple, ast.List, ast.Dict)
        for name, node in nodes(ast.Call):
            for part in node.args:
                if isinstance(part, ast.Starred):
                    self.assertIsInstance(part.value, plain, (name, node.lineno))

    def test_kept_at_once(self):
        for name, node in nodes(ast.Return, ast.AugAssign):
            if isinstance(node.value, ast.Call):
                self.assertNotIn(ast.unparse(node.value.func), ("zip", "range", "enumerate", "reversed", "map", "set"),
                                 (name, node.lineno))

    def test_double_underscore_methods_end_in_a_return(self):
        for name, node in nodes(ast.FunctionDef):
            if node.name in ("__repr__", "__str__", "__len__"):
                self.assertIsInstance(node.body[-1], ast.Return, (name, node.lineno))
            if node.name == "__init__":
                self.assertFalse([part for part in ast.walk(node) if isinstance(part, ast.Return)], (name, node.lineno))
