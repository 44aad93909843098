"""The rules of the language subset that can be seen in the code, for every file of the package."""

import ast
import builtins
import pathlib
import re
import unittest

PACKAGE = pathlib.Path(__file__).resolve().parent.parent / "soldwhole"

# The modules in the order in which they should be written: each may use those above it.
ORDER = (
    "errors fractions forms curves curvebacks claims papertexts deeds ledgers waterfalls onefirm levelpapers webs chosen "
    "solving flows nets rows webpapers signs outcomes bests calm groups switches courses walks amountsfor compared "
    "rounds roundpapers offers sidepay books kept desk"
).split()

LIBRARY = {"math": {"gcd", "lcm", "isqrt", "comb", "perm", "factorial"}, "heapq": {"heappush", "heappop", "heapify"}}

BUILTINS = set(
    "len range enumerate zip min max sum abs sorted reversed int str bool list tuple dict set isinstance ord repr any "
    "all divmod ValueError KeyError IndexError NotImplemented".split()
)

METHODS = set(
    "append clear copy count endswith extend find get index insert isalnum isalpha isdigit islower isspace isupper "
    "items join keys ljust lower lstrip partition pop remove replace reverse rfind rjust rpartition rsplit rstrip "
    "setdefault split splitlines startswith strip update upper values zfill bit_length isascii removeprefix "
    "removesuffix".split()
)

BARRED_NAMES = set(
    "register mro elements open input law version_info with_traceback add_note attrgetter breakpoint builtins compile "
    "copyright credits delattr dir eval exec exit gc getattr globals hasattr help id importlib license locals "
    "methodcaller os quit setattr super type vars sys".split()
)

# A shell of Python, and doctest, keep the last answer under the name _.
TAKEN = set(dir(builtins)) - {"_"}

BARRED_WORDS = re.compile(
    r"\b(type|typing|typing_extensions|enum|Enum|IntEnum|StrEnum|Flag|IntFlag|Generic|Protocol|ABC|ABCMeta|namedtuple|"
    r"NamedTuple|TypedDict|TYPE_CHECKING|abstractmethod)\b|dataclass|overload|contextmanager|_wall|_WallAttr"
)

BARRED_NODES = (
    ast.GeneratorExp, ast.Global, ast.Nonlocal, ast.AsyncFunctionDef, ast.Await, ast.Yield, ast.YieldFrom, ast.Set,
    ast.SetComp, ast.Div, ast.MatMult, ast.With, ast.Match, ast.NamedExpr, ast.AnnAssign, ast.Assert,
)


def files():
    return sorted(PACKAGE.glob("*.py"))


def trees():
    return [(path, ast.parse(path.read_text())) for path in files()]


def imported(tree):
    return {alias.name for node in tree.body if isinstance(node, ast.ImportFrom) for alias in node.names}


def bound_names(tree):
    """All names that functions bind, with the nodes: parameters, locals, loop variables, caught errors."""
    for node in ast.walk(tree):
        if isinstance(node, ast.arg):
            yield node.arg, node
        elif isinstance(node, ast.Name) and isinstance(node.ctx, ast.Store):
            yield node.id, node
        elif isinstance(node, ast.ExceptHandler) and node.name:
            yield node.name, node


class Files(unittest.TestCase):
    def test_the_folder_holds_the_modules_alone(self):
        names = sorted(path.name for path in PACKAGE.iterdir() if path.name != "__pycache__")
        self.assertEqual(names, sorted(["__init__.py"] + [name + ".py" for name in ORDER]))
        self.assertEqual((PACKAGE / "__init__.py").read_text(), "")

    def test_sizes_and_characters(self):
        for path in files():
            text = path.read_text()
            self.assertRegex(text, r"\A[ -~\n]*\Z", path)
            lines = text.split("\n")
            self.assertLessEqual(len(lines), 399, path)
            self.assertLessEqual(max(len(line) for line in lines), 120, path)

    def test_functions_are_short(self):
        for path, tree in trees():
            for node in ast.walk(tree):
                if isinstance(node, ast.FunctionDef):
                    self.assertLessEqual(node.end_lineno - node.lineno + 1, 40, (path.name, node.name))

    def test_words(self):
        for path in files():
            code = re.sub(r'""".*?"""|#[^\n]*', "", path.read_text(), flags=re.S)
            self.assertIsNone(BARRED_WORDS.search(code), path)


class Shapes(unittest.TestCase):
    def test_imports_come_from_modules_above(self):
        for path, tree in trees():
            for node in ast.walk(tree):
                self.assertNotIsInstance(node, ast.Import)
                if not isinstance(node, ast.ImportFrom):
                    continue
                self.assertIn(node, tree.body)
                names = {alias.name for alias in node.names}
                self.assertTrue(all(alias.asname is None for alias in node.names))
                if node.module in LIBRARY:
                    self.assertLessEqual(names, LIBRARY[node.module])
                    continue
                package, module = node.module.split(".")
                self.assertEqual(package, "soldwhole")
                self.assertLess(ORDER.index(module), ORDER.index(path.stem), path)
                self.assertLessEqual(names, self.defined(module), path)

    def defined(self, module):
        tree = ast.parse((PACKAGE / (module + ".py")).read_text())
        found = {node.name for node in tree.body if isinstance(node, (ast.FunctionDef, ast.ClassDef))}
        return found | {target.id for node in tree.body if isinstance(node, ast.Assign) for target in node.targets}

    def test_module_level(self):
        for path, tree in trees():
            names = []
            for place, node in enumerate(tree.body):
                if isinstance(node, ast.Expr):
                    self.assertEqual(place, 0, path)
                    self.assertIsInstance(node.value.value, str)
                elif isinstance(node, ast.Assign):
                    names.extend(target.id for target in node.targets)
                elif isinstance(node, ast.ImportFrom):
                    names.extend(alias.name for alias in node.names)
                else:
                    self.assertIsInstance(node, (ast.FunctionDef, ast.ClassDef))
                    names.append(node.name)
            self.assertEqual(len(names), len(set(names)), path)

    def test_what_is_not_used(self):
        for path, tree in trees():
            for node in ast.walk(tree):
                where = (path.name, getattr(node, "lineno", None))
                self.assertNotIsInstance(node, BARRED_NODES, where)
                self.assertFalse(getattr(node, "decorator_list", []), where)
                if isinstance(node, ast.Constant):
                    self.assertNotIsInstance(node.value, (float, complex), where)
                    self.assertFalse(isinstance(node.value, str) and "%" in node.value, where)
                if isinstance(node, ast.BinOp) and isinstance(node.op, ast.Pow):
                    self.assertIn(getattr(node.right, "value", None), range(65), where)
                if isinstance(node, ast.Compare) and isinstance(node.ops[0], (ast.Is, ast.IsNot)):
                    self.assertIsNone(node.comparators[0].value, where)

    def test_own_errors_alone_are_caught(self):
        own = {node.name for node in ast.parse((PACKAGE / "errors.py").read_text()).body
               if isinstance(node, ast.ClassDef)}
        for path, tree in trees():
            for function in [node for node in ast.walk(tree) if isinstance(node, ast.FunctionDef)]:
                caught = []
                for node in [node for node in ast.walk(function) if isinstance(node, ast.Try)]:
                    self.assertFalse(node.finalbody or node.orelse, (path.name, node.lineno))
                    self.assertTrue(all(handler.type.id in own for handler in node.handlers), (path.name, node.lineno))
                    caught.extend(handler.name for handler in node.handlers if handler.name)
                self.assertEqual(len(caught), len(set(caught)), (path.name, function.name))
                others = [name for name, node in bound_names(function) if not isinstance(node, ast.ExceptHandler)]
                self.assertFalse(set(caught) & set(others), (path.name, function.name))

    def test_errors_are_made_where_they_are_raised(self):
        for path, tree in trees():
            for node in ast.walk(tree):
                if isinstance(node, ast.Raise):
                    self.assertIsInstance(node.exc, ast.Call, (path.name, node.lineno))
                    self.assertIn(node.exc.func.id, imported(tree), (path.name, node.lineno))

    def test_what_compares_compares_plainly(self):
        """Each __eq__ is one row: is it of the class, and are these attributes alike."""
        for path, tree in trees():
            for one in [node for node in ast.walk(tree) if isinstance(node, ast.ClassDef)]:
                for method in [node for node in one.body if getattr(node, "name", "") == "__eq__"]:
                    self.assertEqual(len(method.body), 1, path)
                    parts = [ast.unparse(part) for part in method.body[0].value.values]
                    self.assertEqual(parts[0], f"isinstance(other, {one.name})")
                    for part in parts[1:]:
                        self.assertRegex(part, r"\Aself\.(\w+) == other\.\1\Z", path)

    def test_sets_are_not_kept(self):
        for path, tree in trees():
            for node in ast.walk(tree):
                for inner in ast.iter_child_nodes(node):
                    if isinstance(inner, ast.Call) and getattr(inner.func, "id", "") == "set":
                        self.assertIsInstance(node, ast.Call, path)
                        self.assertIn(node.func.id, ("sorted", "len"), path)

    def test_iterators_are_not_kept(self):
        for path, tree in trees():
            for node in ast.walk(tree):
                if isinstance(node, (ast.Assign, ast.Return)) and isinstance(node.value, ast.Call):
                    name = getattr(node.value.func, "id", getattr(node.value.func, "attr", ""))
                    kept = ("zip", "enumerate", "reversed", "range", "items", "keys", "values", "map", "iter")
                    self.assertNotIn(name, kept, (path.name, node.lineno))


class Names(unittest.TestCase):
    def test_what_is_imported_is_used(self):
        for path, tree in trees():
            used = {node.id for node in ast.walk(tree) if isinstance(node, ast.Name)}
            self.assertFalse(imported(tree) - used, path)

    def test_bound_names(self):
        for path, tree in trees():
            classes = {node.name for node in ast.walk(tree) if isinstance(node, ast.ClassDef)}
            for name, node in bound_names(tree):
                where = (path.name, node.lineno, name)
                self.assertRegex(name, r"\A(_|[A-Za-z][A-Za-z0-9_]*)\Z", where)
                self.assertNotIn(name, imported(tree) | classes, where)
                self.assertNotIn(name, BARRED_NAMES | TAKEN, where)

    def test_defined_names(self):
        for path, tree in trees():
            for node in ast.walk(tree):
                if isinstance(node, (ast.FunctionDef, ast.ClassDef)) and node.name not in ("__init__", "__eq__"):
                    self.assertRegex(node.name, r"\A[A-Za-z][A-Za-z0-9_]*\Z", path)
                    self.assertNotIn(node.name, BARRED_NAMES | TAKEN, path)

    def test_read_names(self):
        for path, tree in trees():
            known = self.known(tree)
            for node in ast.walk(tree):
                if isinstance(node, ast.Name) and isinstance(node.ctx, ast.Load):
                    self.assertNotEqual(node.id, "_", (path.name, node.lineno))
                    self.assertIn(node.id, known | BUILTINS, (path.name, node.lineno))

    def known(self, tree):
        bound = {name for name, _ in bound_names(tree)}
        defined = {node.name for node in ast.walk(tree) if isinstance(node, (ast.FunctionDef, ast.ClassDef))}
        return bound | defined | imported(tree)

    def test_methods(self):
        own = {node.name for _, tree in trees() for one in ast.walk(tree) if isinstance(one, ast.ClassDef)
               for node in one.body if isinstance(node, ast.FunctionDef)}
        for path, tree in trees():
            for node in ast.walk(tree):
                if isinstance(node, ast.Call) and isinstance(node.func, ast.Attribute):
                    self.assertIn(node.func.attr, METHODS | own, (path.name, node.lineno))

    def test_own_methods_and_attributes_have_names_of_their_own(self):
        taken = set().union(*(dir(kind) for kind in (str, int, list, dict, set, bytes)))
        for path, tree in trees():
            methods = {node.name for one in ast.walk(tree) if isinstance(one, ast.ClassDef)
                       for node in one.body if isinstance(node, ast.FunctionDef)} - {"__init__", "__eq__"}
            stored = {node.attr for node in ast.walk(tree)
                      if isinstance(node, ast.Attribute) and isinstance(node.ctx, ast.Store)} - {"count", "index"}
            self.assertFalse((methods | stored) & taken, path)
            self.assertFalse(methods & stored, path)


if __name__ == "__main__":
    unittest.main()
