"""LANGUAGE.md: those of its rules that can be read off the files of the package."""

import ast
import builtins
import pathlib
import unittest

PACKAGE = pathlib.Path(__file__).resolve().parent.parent / "orderrings"
LIBRARY = {
    "heapq": {"heappush", "heappop", "heapify", "heapreplace", "heappushpop"},
    "math": {"gcd", "lcm", "isqrt", "comb", "perm", "factorial"},
    "itertools": {"product", "combinations", "permutations", "chain", "accumulate", "pairwise", "islice", "zip_longest"},
    "collections": {"defaultdict"},
    "__future__": {"annotations"},
}
BUILTINS = set(
    "len range enumerate zip min max sum abs sorted reversed int str bool list tuple dict set isinstance ord repr any all "
    "divmod pow getattr hasattr setattr iter next map Exception ValueError TypeError KeyError IndexError LookupError "
    "ZeroDivisionError ArithmeticError OverflowError RuntimeError NotImplementedError AttributeError StopIteration "
    "NotImplemented super property staticmethod classmethod".split()
)
METHODS = set(
    "append clear copy count endswith extend find get index insert isalnum isalpha isdigit islower isspace isupper items "
    "join keys ljust lower lstrip partition pop remove replace reverse rfind rjust rpartition rsplit rstrip setdefault "
    "split splitlines startswith strip update upper values zfill bit_length add discard sort translate format title "
    "capitalize swapcase casefold center expandtabs removeprefix removesuffix rindex isascii isdecimal isnumeric istitle "
    "isidentifier isprintable encode decode hex".split()
)
STATEMENTS = (
    ast.Assign, ast.AugAssign, ast.AnnAssign, ast.If, ast.While, ast.For, ast.Return, ast.Break, ast.Continue, ast.Pass,
    ast.Raise, ast.Assert, ast.Delete, ast.Nonlocal, ast.Match, ast.With, ast.Try, ast.Expr, ast.FunctionDef, ast.ClassDef,
    ast.ImportFrom,
)
TOP = (ast.Expr, ast.ImportFrom, ast.FunctionDef, ast.ClassDef, ast.Assign)
LAZY = {"zip", "enumerate", "reversed", "map"}
CHOOSING = {"product", "combinations", "permutations"}
VIEWS = {"items", "keys", "values"}
COMPREHENSIONS = (ast.ListComp, ast.SetComp, ast.DictComp)
EAGER = {"list", "tuple", "dict", "sorted", "sum", "any", "all", "enumerate", "zip", "min", "max"}
BARRED = set(
    "register mro elements open input law version_info with_traceback add_note type typing typing_extensions enum Enum "
    "IntEnum StrEnum Flag IntFlag Generic Protocol ABC ABCMeta namedtuple NamedTuple TypedDict TYPE_CHECKING "
    "abstractmethod dataclass overload contextmanager _wall _WallAttr".split()
)


def each_file():
    for path in sorted(PACKAGE.rglob("*.py")):
        text = path.read_text(encoding="utf-8")
        tree = ast.parse(text)
        for node in ast.walk(tree):
            for child in ast.iter_child_nodes(node):
                child.parent = node
        yield path, text, tree


FILES = list(each_file())
NODES = [(path, node) for path, _, tree in FILES for node in ast.walk(tree)]


def called(node):
    return node.func.id if isinstance(node, ast.Call) and isinstance(node.func, ast.Name) else None


def bound_names(tree):
    """All names that a file gives a meaning, each with the node that does."""
    for node in ast.walk(tree):
        if isinstance(node, (ast.FunctionDef, ast.ClassDef)):
            yield node.name, node
        elif isinstance(node, ast.arg):
            yield node.arg, node
        elif isinstance(node, ast.Name) and isinstance(node.ctx, ast.Store):
            yield node.id, node
        elif isinstance(node, ast.alias):
            yield node.asname or node.name, node


def assigned_names(function):
    """The names that the statements of a function assign, without those of comprehensions."""
    found = set()
    for node in ast.walk(function):
        if isinstance(node, ast.Name) and isinstance(node.ctx, ast.Store):
            above = node.parent
            while not isinstance(above, (ast.stmt, ast.comprehension)):
                above = above.parent
            if isinstance(above, ast.stmt):
                found.add(node.id)
    return found


def top_names(node):
    """The names that a statement at module level binds."""
    if isinstance(node, ast.ImportFrom):
        return [alias.name for alias in node.names]
    if isinstance(node, ast.Assign):
        return [target.id for target in node.targets]
    return [node.name] if isinstance(node, (ast.FunctionDef, ast.ClassDef)) else []


class Language(unittest.TestCase):
    def right(self, fits, path, node, rule):
        self.assertTrue(fits, f"{path.name}:{getattr(node, 'lineno', node)} breaks {rule}")

    def test_files(self):
        self.assertGreater(len(FILES), 4)
        for path in PACKAGE.rglob("*"):
            if "__pycache__" not in path.parts:
                self.right(path.is_dir() or path.suffix == ".py", path, 0, "L1")
                self.right(path.stem == "__init__" or path.stem.islower(), path, 0, "L14")

    def test_lines(self):
        for path, text, _ in FILES:
            lines = text.splitlines()
            self.right(len(lines) <= 399, path, len(lines), "L10")
            self.right(all(sign == "\n" or " " <= sign <= "~" for sign in text), path, 0, "L14")
            for at, line in enumerate(lines):
                self.right(len(line) <= 120, path, at + 1, "L10")

    def test_functions(self):
        for path, node in NODES:
            if isinstance(node, ast.FunctionDef):
                self.right(node.end_lineno - node.lineno < 40, path, node, "L10")
                self.right(not node.decorator_list, path, node, "L4")

    def test_classes(self):
        for path, node in NODES:
            if isinstance(node, ast.ClassDef):
                self.right(isinstance(node.parent, ast.Module) and not node.decorator_list, path, node, "L5")
                for part in node.body:
                    text = isinstance(part, ast.Expr) and isinstance(part.value, ast.Constant)
                    self.right(text or isinstance(part, ast.FunctionDef), path, part, "L5")
                methods = [part.name for part in node.body if isinstance(part, ast.FunctionDef)]
                self.right(len(methods) == len(set(methods)), path, node, "L18")
                stored = {part.attr for part in ast.walk(node) if isinstance(part, ast.Attribute) and isinstance(part.ctx, ast.Store)}
                self.right(not stored & set(methods), path, node, "L18")
            if isinstance(node, ast.FunctionDef) and node.name.startswith("__"):
                self.right(isinstance(node.parent, ast.ClassDef), path, node, "L28")
                self.right(node.name in ("__init__", "__eq__", "__repr__", "__str__", "__len__"), path, node, "L5")

    def test_imports(self):
        for path, node in NODES:
            self.right(not isinstance(node, ast.Import), path, node, "L16")
            if isinstance(node, ast.ImportFrom):
                names = {alias.name for alias in node.names}
                self.right(node.level == 0 and not any(alias.asname for alias in node.names), path, node, "L2")
                own = node.module.startswith("orderrings.")
                self.right(own or names <= LIBRARY.get(node.module, set()), path, node, "L2")
                if own:
                    other = PACKAGE / (node.module.partition(".")[2].replace(".", "/") + ".py")
                    defined = {top.name for top in ast.parse(other.read_text(encoding="utf-8")).body if hasattr(top, "name")}
                    self.right(names <= defined, path, node, "L16")

    def test_statements(self):
        for path, _, tree in FILES:
            for node in tree.body:
                text = isinstance(node, ast.Expr) and not isinstance(node.value, ast.Constant)
                self.right(isinstance(node, TOP) and not text, path, node, "L3")
        for path, node in NODES:
            if isinstance(node, ast.stmt):
                self.right(isinstance(node, STATEMENTS), path, node, "L6")
            # A generator expression may stand in a few places, but a list does there, too.
            barred = isinstance(node, (ast.Div, ast.GeneratorExp))
            self.right(not barred, path, node, "L7")
            if isinstance(node, ast.Constant):
                self.right(not isinstance(node.value, (float, complex)), path, node, "L7")
                self.right(not (isinstance(node.value, str) and "%" in node.value), path, node, "L27")
            if isinstance(node, ast.Pow):
                self.right(isinstance(node.parent.right, ast.Constant), path, node, "L27")
            if isinstance(node, (ast.Is, ast.IsNot)):
                self.right(isinstance(node.parent.comparators[0], ast.Constant), path, node, "L20")

    def test_names(self):
        for path, _, tree in FILES:
            tops = [name for node in tree.body for name in top_names(node)]
            self.assertEqual(len(tops), len(set(tops)), f"{path.name} breaks L15")
            fixed = [node for node in tree.body if isinstance(node, (ast.ImportFrom, ast.ClassDef))]
            taken = {name for node in fixed for name in top_names(node)}
            for name, node in bound_names(tree):
                special = name.startswith("__") and name.endswith("__")
                self.right(special or not name.startswith("__"), path, node, "L12")
                self.right(name not in vars(builtins), path, node, "L15")
                self.right(name not in BARRED, path, node, "L17")
                if not isinstance(node, (ast.alias, ast.ClassDef)):
                    self.right(name not in taken, path, node, "L15")
        for path, node in NODES:
            if isinstance(node, ast.Name) and node.id in vars(builtins):
                self.right(node.id in BUILTINS, path, node, "L8")

    def test_methods(self):
        own = {node.name for _, node in NODES if isinstance(node, ast.FunctionDef)}
        for path, node in NODES:
            if isinstance(node, ast.Call) and isinstance(node.func, ast.Attribute):
                self.right(node.func.attr in METHODS or node.func.attr in own, path, node, "L25")

    def test_iterated_at_once(self):
        for path, node in NODES:
            if called(node) in LAZY:
                parent = node.parent
                fits = isinstance(parent, (ast.For, ast.comprehension)) or called(parent) in EAGER
                self.right(fits, path, node, "L23")
            if called(node) in CHOOSING:
                parent = node.parent
                fits = isinstance(parent, (ast.For, ast.comprehension)) or called(parent) in EAGER - LAZY
                self.right(fits, path, node, "L2")
                self.right(called(node.args[0]) in ("list", "range"), path, node, "L2")
                fits = all(isinstance(more, (ast.Constant, ast.Name)) for more in node.args[1:])
                self.right(fits and not node.keywords, path, node, "L2")
            if isinstance(node, ast.Call) and isinstance(node.func, ast.Attribute) and node.func.attr in VIEWS:
                parent = node.parent
                fits = isinstance(parent, (ast.For, ast.comprehension)) or called(parent) in EAGER
                self.right(fits, path, node, "L23")

    def test_names_in_comprehensions(self):
        for path, node in NODES:
            if not isinstance(node, COMPREHENSIONS):
                continue
            own = {name.id for part in node.generators for name in ast.walk(part.target) if isinstance(name, ast.Name)}
            taken, inner = set(), False
            outer = node.parent
            while not isinstance(outer, ast.FunctionDef):
                if isinstance(outer, COMPREHENSIONS):
                    inner = True
                    targets = [name for part in outer.generators for name in ast.walk(part.target)]
                    taken |= {name.id for name in targets if isinstance(name, ast.Name)}
                elif isinstance(outer, ast.Lambda):
                    inner = True
                    taken |= {arg.arg for arg in outer.args.args}
                outer = outer.parent
            if inner:
                taken |= {arg.arg for arg in outer.args.args} | assigned_names(outer)
                self.right(not own & taken - {"_"}, path, node, "L7")

    def test_lambdas(self):
        places = [(path, node.lineno) for path, node in NODES if isinstance(node, ast.Lambda)]
        self.assertEqual(len(places), len(set(places)), "L13")
        for path, node in NODES:
            if isinstance(node, ast.Lambda):
                self.right(not node.args.vararg and not node.args.kwarg and not node.args.defaults, path, node, "L4")

    def test_imports_go_one_way(self):
        needs = {}
        for path, node in NODES:
            if isinstance(node, ast.ImportFrom) and node.module.startswith("orderrings."):
                needs.setdefault(path.stem, set()).add(node.module.partition(".")[2])
        done = {path.stem for path, _, _ in FILES} - set(needs)
        while needs:
            free = {name for name, others in needs.items() if others <= done}
            self.assertTrue(free, f"L16: {sorted(needs)}")
            done |= free
            needs = {name: others for name, others in needs.items() if name not in free}

    def test_sets(self):
        for path, node in NODES:
            if isinstance(node, (ast.Set, ast.SetComp)) or called(node) == "set":
                fits = isinstance(node.parent, ast.Compare) or called(node.parent) in ("sorted", "len")
                self.right(fits, path, node, "L24")

    def test_errors(self):
        for path, node in NODES:
            if isinstance(node, ast.Raise):
                self.right(node.exc is None or called(node.exc) is not None, path, node, "L19")
            if isinstance(node, ast.ExceptHandler):
                self.right(node.type is not None, path, node, "L6")


if __name__ == "__main__":
    unittest.main()
