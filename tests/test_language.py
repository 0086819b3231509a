"""The rules of the language that a file shows by itself: files, sizes, imports, names and statements."""

import ast
import builtins
import pathlib
import re

from tests.support import Case

PACKAGE = pathlib.Path(__file__).resolve().parent.parent / "laprunners"
FILES = sorted(PACKAGE.rglob("*.py"))
LIBRARY = {
    "heapq": {"heappush", "heappop", "heapify", "heapreplace", "heappushpop"},
    "math": {"gcd", "lcm", "isqrt", "comb", "perm", "factorial"},
    "itertools": {
        "product", "combinations", "permutations", "chain", "accumulate", "pairwise", "islice", "zip_longest",
    },
    "collections": {"defaultdict", "deque"},
}
BUILTINS = set(
    "len range enumerate zip min max sum abs sorted reversed int str bool list tuple dict set isinstance ord repr any "
    "all divmod pow iter next map type property staticmethod classmethod super Exception ValueError TypeError KeyError "
    "IndexError LookupError ZeroDivisionError ArithmeticError OverflowError RuntimeError NotImplementedError "
    "AttributeError StopIteration NotImplemented print __name__".split()
)
METHODS = set(
    "__init__ __eq__ __repr__ __str__ __len__ __enter__ __exit__ __call__ __iter__ __lt__ __le__ __gt__ __ge__ __ne__ "
    "__add__ __sub__ __mul__ __and__ __or__ __neg__ __bool__ __contains__ __getitem__ __setitem__".split()
)
BARRED_WORDS = re.compile(
    r"\b(typing|typing_extensions|enum|Enum|IntEnum|StrEnum|Flag|IntFlag|Generic|Protocol|ABC|ABCMeta|namedtuple|"
    r"NamedTuple|TypedDict|TYPE_CHECKING|abstractmethod|mro|open|input|law|register|elements)\b|dataclass|overload"
    r"|contextmanager|metaclass=|Meta|\(type\)"
)
BARRED_NODES = (
    ast.Global, ast.AsyncFunctionDef, ast.AsyncFor, ast.AsyncWith, ast.Await, ast.Import, ast.Div,
    ast.GeneratorExp, ast.Yield, ast.YieldFrom,
)


def trees():
    """The path and the syntax tree of each file of the package."""
    return [(path, ast.parse(path.read_text())) for path in FILES]


def bound_names(tree):
    """All names that a file gives a meaning: functions, classes, parameters and variables."""
    for node in ast.walk(tree):
        if isinstance(node, (ast.FunctionDef, ast.ClassDef)):
            yield node.name
        elif isinstance(node, ast.arg):
            yield node.arg
        elif isinstance(node, ast.Name) and isinstance(node.ctx, ast.Store):
            yield node.id
        elif isinstance(node, ast.alias):
            yield node.name


class Files(Case):
    def test_only_python_files(self):
        self.assertIn(PACKAGE / "__init__.py", FILES)
        for path in PACKAGE.rglob("*"):
            if "__pycache__" not in path.parts and path.is_file():
                self.assertRegex(path.name, r"^[a-z_][a-z0-9_]*\.py$")

    def test_characters_and_sizes(self):
        for path in FILES:
            text = path.read_text()
            lines = text.split("\n")
            self.assertRegex(text, r"\A[ -~\n]*\Z", path)
            self.assertLessEqual(len(lines), 399, path)
            self.assertLessEqual(max(len(line) for line in lines), 120, path)

    def test_words(self):
        for path in FILES:
            self.assertIsNone(BARRED_WORDS.search(path.read_text()), path)


class Code(Case):
    def test_functions_have_at_most_forty_lines(self):
        for path, tree in trees():
            for node in ast.walk(tree):
                if isinstance(node, ast.FunctionDef):
                    self.assertLessEqual(node.end_lineno - node.lineno + 1, 40, (path, node.name))

    def test_imports(self):
        for path, tree in trees():
            for node in ast.walk(tree):
                if isinstance(node, ast.ImportFrom):
                    self.assertEqual(node.level, 0, path)
                    self.assertTrue(all(alias.asname is None for alias in node.names), path)
                    if node.module in LIBRARY:
                        self.assertLessEqual({alias.name for alias in node.names}, LIBRARY[node.module], path)
                    else:
                        self.assertRegex(node.module, r"^laprunners\.[a-z_]+$", path)
                        text = (PACKAGE / (node.module.split(".")[1] + ".py")).read_text()
                        for alias in node.names:
                            defined = r"(?m)^((def|class) NAME\b|NAME = )".replace("NAME", alias.name)
                            self.assertRegex(text, defined, path)

    def test_no_two_files_import_from_each_other(self):
        imports = {}
        for path, tree in trees():
            found = [node.module.split(".") for node in ast.walk(tree) if isinstance(node, ast.ImportFrom)]
            imports[path.stem] = {words[1] for words in found if words[0] == "laprunners"}
        while imports:
            free = [name for name in imports if not imports[name] & imports.keys()]
            self.assertNotEqual(free, [], imports)
            for name in free:
                del imports[name]

    def test_builtins(self):
        known = set(dir(builtins))
        for path, tree in trees():
            given = set(bound_names(tree))
            self.assertEqual({name for name in given if name in known and name not in METHODS}, set(), path)
            used = {node.id for node in ast.walk(tree) if isinstance(node, ast.Name)}
            self.assertLessEqual(used & known, BUILTINS, path)

    def test_names(self):
        for path, tree in trees():
            for name in bound_names(tree):
                if name not in METHODS:
                    self.assertNotRegex(name, r"^(__|_wall|_pe_|_dcw_|_enum_|_cm_|_twin_re_|_lay_|_law_|_stub_|_sre)")

    def test_no_name_hides_an_import_or_a_class(self):
        for path, tree in trees():
            taken = {node.name for node in tree.body if isinstance(node, ast.ClassDef)}
            for node in tree.body:
                if isinstance(node, ast.ImportFrom):
                    taken |= {alias.name for alias in node.names}
            inside = [node for node in ast.walk(tree) if isinstance(node, (ast.arg, ast.Name))]
            for node in inside:
                if isinstance(node, ast.arg) or isinstance(node.ctx, ast.Store):
                    name = node.arg if isinstance(node, ast.arg) else node.id
                    self.assertNotIn(name, taken, path)

    def test_statements_and_expressions(self):
        for path, tree in trees():
            for node in ast.walk(tree):
                self.assertNotIsInstance(node, BARRED_NODES, path)
                if isinstance(node, ast.Constant):
                    self.assertIsInstance(node.value, (int, str, type(None)), path)
                if isinstance(node, ast.Constant) and isinstance(node.value, str):
                    self.assertNotIn("%", node.value, path)
                if isinstance(node, ast.FunctionDef):
                    for decorator in node.decorator_list:
                        self.assertEqual(ast.unparse(decorator), "property", path)

    def test_no_sorting_in_place(self):
        for path, tree in trees():
            called = {node.attr for node in ast.walk(tree) if isinstance(node, ast.Attribute)}
            self.assertNotIn("sort", called, path)

    def test_type_is_only_compared_with_a_class(self):
        for path, tree in trees():
            named = [node for node in ast.walk(tree) if isinstance(node, ast.Name) and node.id == "type"]
            compared = [
                node for node in ast.walk(tree)
                if isinstance(node, ast.Compare) and len(node.ops) == 1 and isinstance(node.ops[0], ast.Is)
                and ast.unparse(node.left).startswith("type(")
                and ast.unparse(node.comparators[0]) in ("int", "str", "bool", "list", "tuple", "dict")
            ]
            self.assertEqual(len(named), len(compared), path)

    def test_a_class_with_indexes_cannot_be_iterated(self):
        for path, tree in trees():
            for made in [node for node in ast.walk(tree) if isinstance(node, ast.ClassDef)]:
                methods = {node.name: node for node in made.body if isinstance(node, ast.FunctionDef)}
                if "__getitem__" in methods:
                    self.assertIn("raise TypeError", ast.unparse(methods["__iter__"]), path)

    def test_attributes_of_the_interface_are_no_methods(self):
        for path, tree in trees():
            for made in [node for node in ast.walk(tree) if isinstance(node, ast.ClassDef)]:
                methods = {node.name for node in made.body if isinstance(node, ast.FunctionDef)}
                stored = {node.attr for node in ast.walk(made)
                          if isinstance(node, ast.Attribute) and isinstance(node.ctx, ast.Store)}
                self.assertEqual(methods & stored, set(), (path, made.name))
