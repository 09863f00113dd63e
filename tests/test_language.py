"""The rules of the language subset that can be seen by looking at the files one by one."""

import ast
import builtins
import pathlib
import re
import unittest
import warnings

PACKAGE = pathlib.Path(__file__).resolve().parent.parent / "backsheet"

LIBRARY = {
    "heapq": {"heappush", "heappop", "heapify", "heapreplace", "heappushpop"},
    "math": {"gcd", "lcm", "isqrt", "comb", "perm", "factorial"},
    "itertools": {"product", "combinations", "permutations", "chain", "accumulate", "pairwise", "islice",
                  "zip_longest"},
    "collections": {"defaultdict"},
    "__future__": {"annotations"},
}
BUILTINS = set("""
    len range enumerate zip min max sum abs sorted reversed int str bool bytes list tuple dict set frozenset isinstance
    ord repr any all divmod pow getattr hasattr setattr Exception ValueError TypeError KeyError IndexError LookupError
    ZeroDivisionError ArithmeticError OverflowError RuntimeError NotImplementedError AttributeError StopIteration
    NotImplemented iter next map property staticmethod classmethod super True False None object float
""".split())
METHODS = set("""
    append clear copy count endswith extend find get index insert isalnum isalpha isdigit islower isspace isupper items
    join keys ljust lower lstrip partition pop remove replace reverse rfind rjust rpartition rsplit rstrip setdefault
    split splitlines startswith strip update upper values zfill bit_length title capitalize swapcase casefold center
    expandtabs removeprefix removesuffix rindex isascii isdecimal isnumeric istitle isidentifier isprintable translate
    maketrans sort add discard format encode decode hex
""".split())
SPECIAL_METHODS = set("""
    init eq repr str len enter exit call iter lt le gt ge ne add sub mul floordiv mod pow and or xor lshift rshift
    radd rsub rmul rfloordiv rmod rand ror rxor rlshift rrshift iadd isub imul ifloordiv imod ipow iand ior ixor
    ilshift irshift neg pos invert abs bool contains getitem setitem
""".split())
BARRED_NAMES = set("""
    register mro elements open input law version_info with_traceback add_note attrgetter breakpoint builtins compile
    copyright credits delattr dir eval exec exit gc globals help id importlib license locals methodcaller os quit type
    vars sys
""".split())
BARRED_WORDS = re.compile(
    r"\b(type|typing|typing_extensions|enum|Enum|IntEnum|StrEnum|Flag|IntFlag|Generic|Protocol|ABC|ABCMeta|namedtuple"
    r"|NamedTuple|TypedDict|TYPE_CHECKING|abstractmethod)\b|dataclass|overload|contextmanager|_wall|_WallAttr")
BUILTIN_METHODS = {name for kind in (str, int, list, dict, set, tuple, bytes) for name in vars(kind)}
ITERATED = (
    "zip", "enumerate", "reversed", "range", "map", "items", "keys", "values", "set", "combinations", "product",
)
TAKERS = ("list", "tuple", "dict", "sorted", "len")
BARRED_NODES = (
    ast.AsyncFunctionDef, ast.AsyncFor, ast.AsyncWith, ast.Await, ast.Global, ast.Import, ast.Div, ast.MatMult,
    ast.MatchMapping, ast.TryStar,
)


def files():
    return sorted(PACKAGE.rglob("*.py"))


def faults_of_lines(text):
    """Rules L10 and L14: sizes and characters."""
    lines = text.splitlines()
    faults = [f"line {at + 1} is long" for at, line in enumerate(lines) if len(line) > 120]
    if len(lines) > 399:
        faults.append("file is long")
    if re.search(r"[^ -~\n]", text):
        faults.append("barred character")
    return faults


def faults_of_imports(tree):
    """Rules L2 and L16: what is imported, and in which words."""
    faults = []
    for node in ast.walk(tree):
        if isinstance(node, ast.ImportFrom):
            names = {alias.name for alias in node.names}
            own = node.level == 0 and re.fullmatch(r"backsheet\.[a-z_]+", node.module)
            if not own and not (node.level == 0 and names <= LIBRARY.get(node.module, set())):
                faults.append(f"import from {node.module}")
            if node not in tree.body or "*" in names or any(alias.asname for alias in node.names):
                faults.append("import in another place or form")
    return faults


def bound_names(tree):
    """All names that a file gives a meaning, but those of attributes."""
    names = []
    for node in ast.walk(tree):
        if isinstance(node, (ast.FunctionDef, ast.ClassDef)):
            names.append(node.name)
        elif isinstance(node, ast.arg):
            names.append(node.arg)
        elif isinstance(node, ast.Name) and isinstance(node.ctx, ast.Store):
            names.append(node.id)
        elif isinstance(node, ast.ExceptHandler) and node.name:
            names.append(node.name)
    return names


def faults_of_names(tree):
    """Rules L8, L12, L15, L17, L25 and L26: names, builtins and methods."""
    faults = []
    for name in bound_names(tree):
        special = name.startswith("__")
        if special and name[2:-2] not in SPECIAL_METHODS:
            faults.append(f"special method {name}")
        if not special and (name in BARRED_NAMES or name in dir(builtins)):
            faults.append(f"barred name {name}")
    for node in ast.walk(tree):
        if isinstance(node, ast.Name) and node.id in dir(builtins) and node.id not in BUILTINS:
            faults.append(f"builtin {node.id}")
        if isinstance(node, ast.Attribute) and node.attr in BUILTIN_METHODS - METHODS and node.attr != "__init__":
            faults.append(f"method {node.attr}")
    return faults


def faults_of_local_names(tree):
    """Rule L15: inside a function nothing is called like a class or an import of the file."""
    taken = [node.name for node in tree.body if isinstance(node, ast.ClassDef)]
    taken += [alias.name for node in tree.body if isinstance(node, ast.ImportFrom) for alias in node.names]
    functions = [node for node in ast.walk(tree) if isinstance(node, ast.FunctionDef)]
    local = [name for function in functions for statement in [function.args, *function.body]
             for name in bound_names(statement)]
    return [f"local name {name}" for name in local if name in taken]


def faults_of_functions(tree):
    """Rules L4 and L10: decorators and the length of functions."""
    faults = []
    for node in ast.walk(tree):
        if isinstance(node, ast.FunctionDef):
            if node.end_lineno - node.lineno + 1 > 40:
                faults.append(f"function {node.name} is long")
            for decorator in node.decorator_list:
                if ast.unparse(decorator).partition(".")[2] != "setter" and \
                        ast.unparse(decorator) not in ("property", "staticmethod", "classmethod"):
                    faults.append(f"decorator of {node.name}")
        if isinstance(node, ast.ClassDef) and node.decorator_list:
            faults.append(f"decorator of {node.name}")
    return faults


def faults_of_values(tree):
    """Rules L6, L7, L17, L24 and L27: statements, numbers and strings."""
    faults = [f"barred {node.__class__.__name__}" for node in ast.walk(tree) if isinstance(node, BARRED_NODES)]
    documented = (ast.Module, ast.ClassDef, ast.FunctionDef)
    docstrings = [node.body[0].value for node in ast.walk(tree)
                  if isinstance(node, documented) and ast.get_docstring(node) is not None]
    for node in ast.walk(tree):
        if isinstance(node, ast.Constant) and isinstance(node.value, (float, complex)):
            faults.append("float")
        if isinstance(node, ast.Constant) and isinstance(node.value, str):
            if "%" in node.value or node not in docstrings and BARRED_WORDS.search(node.value):
                faults.append(f"string {node.value!r}")
        if isinstance(node, (ast.For, ast.comprehension)) and isinstance(node.iter, (ast.Set, ast.SetComp)):
            faults.append("set that is iterated")
    return faults


def faults_beside_equality(tree):
    """Rules L7 and L25, where a class has __eq__: no generators straight in calls, no sorting in place."""
    faults = [f"generator in line {node.lineno}" for node in ast.walk(tree) if isinstance(node, ast.GeneratorExp)]
    for node in ast.walk(tree):
        if isinstance(node, ast.Attribute) and node.attr == "sort":
            faults.append(f"sort in line {node.lineno}")
    return faults


def faults_of_classes(tree):
    """Rule L18: no name is a method and an attribute in one class."""
    faults = []
    for kind in [node for node in ast.walk(tree) if isinstance(node, ast.ClassDef)]:
        methods = [node.name for node in kind.body if isinstance(node, ast.FunctionDef)]
        stored = [node.attr for node in ast.walk(kind) if isinstance(node, ast.Attribute)
                  and isinstance(node.ctx, ast.Store)]
        faults += [f"method and attribute {name}" for name in methods if name in stored]
        faults += [f"method {name} twice" for name in methods if methods.count(name) > 1]
    return faults


def faults_of_handlers(tree):
    """Rule L19: the name of a caught error stands for nothing else in its function."""
    faults = []
    for function in [node for node in ast.walk(tree) if isinstance(node, ast.FunctionDef)]:
        names = [node.name for node in ast.walk(function) if isinstance(node, ast.ExceptHandler) and node.name]
        faults += [f"caught error {name}" for name in names if bound_names(function).count(name) > 1]
    return faults


def faults_of_comparisons(tree):
    """Rule L20: what stands beside is."""
    nodes = [node for node in ast.walk(tree) if isinstance(node, ast.Compare)
             and isinstance(node.ops[0], (ast.Is, ast.IsNot))]
    return [f"is in line {node.lineno}" for node in nodes
            if ast.unparse(node.comparators[0]) not in ("None", "True", "False")]


def faults_of_calls(tree):
    """Rules L7 and L22: what stands beside two stars, and keywords of what is not called by a name."""
    faults = []
    for node in [node for node in ast.walk(tree) if isinstance(node, ast.Call)]:
        words = [keyword.arg for keyword in node.keywords]
        values = [*node.args, *[keyword.value for keyword in node.keywords]]
        if None in words and not all([isinstance(value, (ast.Name, ast.Attribute, ast.Constant)) for value in values]):
            faults.append(f"beside two stars in line {node.lineno}")
        if words and isinstance(node.func, ast.Attribute) and node.func.attr in METHODS:
            faults.append(f"keyword of a method in line {node.lineno}")
    return faults


def faults_of_iteration(tree):
    """Rules L23 and L24: where zip, enumerate, views of dicts and sets may stand."""
    faults = []
    for node in ast.walk(tree):
        iterated = []
        if isinstance(node, (ast.For, ast.comprehension)):
            iterated = [node.iter]
        elif isinstance(node, ast.Call) and isinstance(node.func, ast.Name) and node.func.id in TAKERS:
            iterated = node.args
        for value in iterated:
            value.is_taken = True
            if isinstance(value, ast.BinOp):
                value.left.is_taken = value.right.is_taken = True
    for node in [node for node in ast.walk(tree) if isinstance(node, ast.Call)]:
        word = getattr(node.func, "id", getattr(node.func, "attr", ""))
        if word in ITERATED and not hasattr(node, "is_taken"):
            faults.append(f"{word} in line {node.lineno}")
    return faults


def faults_of_source(text):
    tree = ast.parse(text)
    found = [faults_of_lines(text)]
    for look in (
        faults_of_imports, faults_of_names, faults_of_local_names, faults_of_functions, faults_of_values,
        faults_beside_equality, faults_of_classes, faults_of_handlers, faults_of_comparisons, faults_of_calls,
        faults_of_iteration,
    ):
        found.append(look(tree))
    return [fault for faults in found for fault in faults]


class PackageTest(unittest.TestCase):

    def test_the_package_has_plain_python_files_alone(self):
        for path in PACKAGE.rglob("*"):
            if "__pycache__" not in path.parts and path.is_file():
                self.assertRegex(path.name, r"^(__init__|__main__|[a-z][a-z0-9_]*)\.py$")

    def test_no_file_breaks_a_rule(self):
        self.assertNotEqual(files(), [])
        for path in files():
            with self.subTest(path.name):
                self.assertEqual(faults_of_source(path.read_text(encoding="utf-8")), [])

    def test_python_warns_of_no_line(self):
        for path in files():
            with self.subTest(path.name), warnings.catch_warnings():
                warnings.simplefilter("error")
                compile(path.read_text(encoding="utf-8"), path.name, "exec")

    def test_no_two_files_import_from_each_other(self):
        imports = {}
        for path in files():
            nodes = [node for node in ast.parse(path.read_text()).body if isinstance(node, ast.ImportFrom)]
            imports["backsheet." + path.stem] = [node.module for node in nodes]
        for first in imports:
            reached = list(imports[first])
            for name in reached:
                reached.extend([each for each in imports.get(name, []) if each not in reached])
            self.assertNotIn(first, reached)


class FaultsTest(unittest.TestCase):
    """The looks themselves: each finds what it is for."""

    def test_sources_with_a_fault(self):
        for source in (
            "x = 1" + " " * 120, "\n" * 400, "# \u00e4", "a =\t1", "import math", "from fractions import Fraction",
            "from .ratios import add", "from backsheet.ratios import *", "from math import gcd as g",
            "from math import pi",
            "def f():\n    from math import gcd", "def f(id):\n    return 1", "def f():\n    input = 1",
            "def f():\n    print(1)", "def f(x):\n    return hash(x)", "def f(x):\n    return x.as_integer_ratio()",
            "class A:\n    def __hash__(self):\n        return 1", "@cache\ndef f():\n    return 1",
            "def f():\n" + "    pass\n" * 41, "A = 1 / 2", "A = 0.5", "A = 'a%b'", "A = 'typing'",
            "from backsheet.ratios import add\ndef f(add):\n    return 1", "class A:\n    pass\ndef f():\n    A = 1",
            "def f():\n    global A", "def f():\n    for x in {1, 2}:\n        pass",
            "def f(x):\n    return any(y for y in x)", "def f(x):\n    x.sort()",
            "class A:\n    def f(self):\n        self.f = 1",
            "class A:\n    def f(self):\n        pass\n    def f(self):\n        pass",
            "def f(x):\n    return x is 5", "def f(x):\n    return f(x.g(), **x)",
            "def f(x):\n    return x.split(sep='a')",
            "def f(x):\n    y = zip(x, x)\n    return list(y)", "def f(x):\n    return x.items()",
            "def f(x):\n    for y in set(x):\n        z = set(x)",
            "def f(e):\n    try:\n        pass\n    except KeyError as e:\n        pass",
        ):
            with self.subTest(source[:40]):
                self.assertNotEqual(faults_of_source(source), [])

    def test_a_source_without_a_fault(self):
        self.assertEqual(faults_of_source('"""The type."""\n\nfrom math import gcd\n\nA = 10 ** 64\n'), [])


if __name__ == "__main__":
    unittest.main()
