"""The rules of the language subset that a script can see, for each file of the package."""

import ast
import builtins
import functools
import io
import keyword
import pathlib
import re
import tokenize
import unittest
import warnings

from tests.language_uses import USES, check_arguments, check_classes, unused_names

PACKAGE = pathlib.Path(__file__).resolve().parent.parent / "peristyle"

LIBRARY = {
    "heapq": ("heappush", "heappop", "heapify", "heapreplace", "heappushpop"),
    "math": ("gcd", "lcm", "isqrt", "comb", "perm", "factorial"),
    "itertools": ("product", "combinations", "permutations", "chain", "accumulate", "pairwise", "islice", "zip_longest"),
    "collections": ("defaultdict",),
    "__future__": ("annotations",),
}
BUILTINS = """len range enumerate zip min max sum abs sorted reversed int str bool bytes list tuple dict set frozenset
isinstance ord repr any all divmod pow getattr hasattr setattr iter next map super property staticmethod classmethod
Exception ValueError TypeError KeyError IndexError LookupError ZeroDivisionError ArithmeticError OverflowError
RuntimeError NotImplementedError AttributeError StopIteration NotImplemented object float""".split()
METHODS = """append clear copy count endswith extend find get index insert isalnum isalpha isdigit islower isspace
isupper items join keys ljust lower lstrip partition pop remove replace reverse rfind rjust rpartition rsplit rstrip
setdefault split splitlines startswith strip update upper values zfill bit_length title capitalize swapcase casefold
center expandtabs removeprefix removesuffix rindex isascii isdecimal isnumeric istitle isidentifier isprintable
translate maketrans encode decode hex add discard sort format from_bytes""".split()
DUNDERS = """init eq repr str len enter exit call iter lt le gt ge ne add sub mul floordiv mod pow and or xor lshift
rshift radd rsub rmul rfloordiv rmod rand ror rxor rlshift rrshift iadd isub imul ifloordiv imod ipow iand ior ixor
ilshift irshift neg pos invert abs bool contains getitem setitem""".split()
BARRED_WORDS = """type typing typing_extensions enum Enum IntEnum StrEnum Flag IntFlag Generic Protocol ABC ABCMeta
namedtuple NamedTuple TypedDict TYPE_CHECKING abstractmethod""".split()
BARRED_PARTS = ("dataclass", "overload", "contextmanager")
BARRED_EVERYWHERE = "register mro elements open input law version_info with_traceback add_note".split()
BARRED_NAMES = """attrgetter breakpoint builtins compile copyright credits delattr dir eval exec exit gc getattr globals
hasattr help id importlib license locals methodcaller os quit setattr super type vars sys""".split()
BARRED_FILES = """test tests testing site conftest sitecustomize usercustomize heapq math itertools collections""".split()
STATEMENTS = (ast.Assign, ast.AugAssign, ast.AnnAssign, ast.If, ast.While, ast.For, ast.Return, ast.Break, ast.Continue,
              ast.Pass, ast.Raise, ast.Assert, ast.Delete, ast.Nonlocal, ast.Match, ast.With, ast.Try, ast.Expr,
              ast.FunctionDef, ast.ClassDef, ast.Import, ast.ImportFrom)
FUNCTIONS = (ast.FunctionDef, ast.Lambda)
SCREEN = "".join([chr(code) for code in range(32, 127)])
PERCENT = chr(37)


class File:
    """One file of the package, read in several ways."""

    def __init__(self, name, text):
        self.name = name
        self.text = text
        self.lines = text.split("\n")
        self.tree = ast.parse(text)
        self.nodes = list(ast.walk(self.tree))
        self.found = []

    def bad(self, rule, line, why):
        self.found.append(f"{self.name}:{line}: {rule}: {why}")


def check_characters(file):
    for number, line in enumerate(file.lines, 1):
        for sign in line:
            if sign not in SCREEN:
                file.bad("L14", number, "a character that is not from the blank to ~")
        if len(line) > 120:
            file.bad("L10", number, "a line of more than 120 characters")
        if re.search(r"_wall|_WallAttr", line):
            file.bad("L12", number, "a barred word")
    if len(file.text.rstrip("\n").split("\n")) > 399:
        file.bad("L10", 400, "a file of more than 399 lines")


def check_sizes(file):
    for node in file.nodes:
        if isinstance(node, ast.FunctionDef) and node.end_lineno - node.lineno + 1 > 40:
            file.bad("L10", node.lineno, "a function of more than 40 lines")


def check_imports(file):
    body = [node for node in file.tree.body if not is_docstring(node)]
    first = [isinstance(node, (ast.Import, ast.ImportFrom)) for node in body]
    if first != sorted(first, reverse=True):
        file.bad("L2", 1, "an import that is not at the top")
    for node in file.nodes:
        if isinstance(node, ast.Import):
            names = [alias.name for alias in node.names]
            if file.name != "__main__.py" or names != ["sys"] or node.names[0].asname:
                file.bad("L16" if names[0].startswith("peristyle") else "L2", node.lineno, "import of a module")
        if isinstance(node, ast.ImportFrom):
            check_from(file, node)


def check_from(file, node):
    names = [alias.name for alias in node.names]
    if node.level or "*" in names:
        file.bad("L2", node.lineno, "a leading dot or a star")
    elif node.module in LIBRARY:
        if any(name not in LIBRARY[node.module] for name in names) or any(alias.asname for alias in node.names):
            file.bad("L2", node.lineno, "a name of the library that is not allowed")
    elif node.module != "peristyle" and not node.module.startswith("peristyle."):
        file.bad("L2", node.lineno, "an import from outside the package")
    elif not (PACKAGE.parent / (node.module.replace(".", "/") + ".py")).exists():
        file.bad("L16", node.lineno, "an import that does not name a file")
    elif node.module.endswith("__main__"):
        file.bad("L2", node.lineno, "an import of __main__")


def is_docstring(node):
    return isinstance(node, ast.Expr) and isinstance(node.value, ast.Constant) and isinstance(node.value.value, str)


def check_module_level(file):
    for node in file.tree.body:
        plain = isinstance(node, (ast.Assign, ast.AnnAssign))
        if plain and isinstance(node, ast.Assign) and not (len(node.targets) == 1 and isinstance(node.targets[0], ast.Name)):
            file.bad("L3", node.lineno, "an assignment to anything but one name")
        if plain:
            check_plain(file, node.value)
        elif isinstance(node, ast.If):
            if file.name != "__main__.py":
                file.bad("L3", node.lineno, "code at module level")
        elif not isinstance(node, (ast.FunctionDef, ast.ClassDef, ast.Import, ast.ImportFrom)) and not is_docstring(node):
            file.bad("L3", node.lineno, "a statement at module level")


def check_plain(file, value):
    for node in ast.walk(value):
        if isinstance(node, (ast.Call, ast.Set, ast.ListComp, ast.DictComp, ast.SetComp, ast.GeneratorExp, ast.Lambda)):
            file.bad("L3", node.lineno, "a value at module level that is not plain")
        if isinstance(node, (ast.List, ast.Dict, ast.Tuple)) and node is not value:
            if isinstance(node, (ast.List, ast.Dict)):
                file.bad("L15", node.lineno, "a list or dict inside of another value")


def bound_names(node):
    """The names that a node binds."""
    if isinstance(node, (ast.FunctionDef, ast.ClassDef)):
        return [node.name]
    if isinstance(node, ast.arg):
        return [node.arg]
    if isinstance(node, ast.Name) and isinstance(node.ctx, (ast.Store, ast.Del)):
        return [node.id]
    if isinstance(node, ast.alias):
        return [node.asname or node.name]
    if isinstance(node, ast.ExceptHandler) and node.name:
        return [node.name]
    if isinstance(node, (ast.MatchAs, ast.MatchStar)) and node.name:
        return [node.name]
    return []


def check_names(file):
    methods = [m for node in file.nodes if isinstance(node, ast.ClassDef) for m in node.body]
    for node in file.nodes:
        for name in bound_names(node):
            line = getattr(node, "lineno", 1)
            dunder = name.startswith("__") and name.endswith("__") and name[2:-2] in DUNDERS and node in methods
            dunder = dunder or name in ("__slots__", "__all__", "__version__")
            if name.startswith("__") and not dunder:
                file.bad("L8", line, f"the name {name}")
            if not dunder and not re.fullmatch(r"_|_?[A-Za-z][A-Za-z0-9_]*", name):
                file.bad("L12", line, f"the name {name}")
            if re.match(r"_wall|_pe_|_dcw_|_enum_|_cm_|_twin_re_|_lay_|_law_|_stub_|_sre", name):
                file.bad("L12", line, f"the name {name}")
            if name in BARRED_EVERYWHERE or name in BARRED_NAMES and not (file.name == "__main__.py" and name == "sys"):
                file.bad("L17", line, f"the name {name}")
            if name in dir(builtins) and not (node in methods and name not in BUILTINS):
                file.bad("L15", line, f"the builtin's name {name}")
        if isinstance(node, ast.ClassDef) and not re.match(r"[A-Za-z]", node.name):
            file.bad("L12", node.lineno, f"the class name {node.name}")
        if isinstance(node, ast.Name) and isinstance(node.ctx, ast.Load) and node.id == "_":
            file.bad("L12", node.lineno, "_ is read")


def check_attributes(file):
    own = {m.name for node in file.nodes if isinstance(node, ast.ClassDef) for m in node.body
           if isinstance(m, ast.FunctionDef)}
    for node in file.nodes:
        if isinstance(node, ast.Attribute):
            if node.attr in BARRED_EVERYWHERE or re.match(r"(f|tb|co|gi|cr|ag)_[a-z]+$", node.attr):
                file.bad("L17", node.lineno, f"the attribute {node.attr}")
            if node.attr.startswith("__") and node.attr not in ("__init__", "__class__", "__name__"):
                file.bad("L8", node.lineno, f"the attribute {node.attr}")
            builtin = any(hasattr(kind, node.attr) for kind in (str, int, list, dict, set, bytes))
            if builtin and node.attr not in METHODS and not node.attr.startswith("__") and node.attr not in own:
                file.bad("L25", node.lineno, f"the method {node.attr}")
            if isinstance(node.ctx, ast.Store) and builtin and node.attr not in (
                    "count", "index", "title", "find", "get", "join", "lower", "upper", "split", "strip", "copy", "add"):
                file.bad("L26", node.lineno, f"the attribute {node.attr}")


def check_builtins(file):
    bound = {name for node in file.nodes for name in bound_names(node)}
    for node in file.nodes:
        if isinstance(node, ast.Name) and isinstance(node.ctx, ast.Load) and node.id not in bound:
            if node.id not in BUILTINS and not (file.name == "__main__.py" and node.id in ("print", "__name__")):
                file.bad("L8", node.lineno, f"the builtin {node.id}")


def check_words(file):
    """L17: words that stand in no file but in comments and docstrings."""
    documents = {id(body[0].value) for node in file.nodes
                 for body in [getattr(node, "body", None)]
                 if isinstance(body, list) and body and is_docstring(body[0])}
    doc_lines = set()
    for node in file.nodes:
        if id(node) in documents:
            doc_lines.update((node.lineno, line) for line in range(node.lineno, node.end_lineno + 1))
    starts = {start for start, _ in doc_lines}
    for token in tokenize.generate_tokens(io.StringIO(file.text).readline):
        is_document = token.type == tokenize.STRING and token.start[0] in starts
        if token.type == tokenize.COMMENT or is_document:
            continue
        words = re.findall(r"\w+", token.string)
        for word in words:
            if word in BARRED_WORDS and not (word == "type" and token.type == tokenize.STRING):
                file.bad("L17", token.start[0], f"the word {word}")
            if any(part in word for part in BARRED_PARTS):
                file.bad("L17", token.start[0], f"the word {word}")


def check_strings(file):
    for token in tokenize.generate_tokens(io.StringIO(file.text).readline):
        if token.type != tokenize.STRING:
            continue
        if PERCENT in token.string:
            file.bad("L27", token.start[0], "a percent sign in a string")
        if "b" not in token.string.split(token.string[-1])[0].lower():
            for escape in re.findall(r"\\.", token.string, re.S):
                if escape not in ("\\n", "\\t", "\\\\", "\\'", '\\"'):
                    file.bad("L27", token.start[0], f"the escape {escape!r}")
    for node in file.nodes:
        if isinstance(node, ast.Constant) and isinstance(node.value, str):
            if PERCENT in node.value:
                file.bad("L27", node.lineno, "a percent sign in a string")
            if node.value.endswith("._") or node.value.endswith(".__"):
                file.bad("L27", node.lineno, "a string that ends in ._")
            if re.fullmatch(r"__.*__", node.value, re.S) and node.value != "__main__":
                file.bad("L27", node.lineno, "a string between double underscores")
        if isinstance(node, ast.Constant) and isinstance(node.value, (float, complex)):
            file.bad("L7", node.lineno, "a number that is not whole")


def check_operations(file):
    for node in file.nodes:
        operation = getattr(node, "op", None)
        if isinstance(operation, ast.Div) or isinstance(operation, ast.MatMult):
            file.bad("L7", node.lineno, "a division that is not whole")
        if isinstance(operation, ast.Pow) and isinstance(node.right, ast.Constant):
            if not (isinstance(node.right.value, int) and 0 <= node.right.value <= 64):
                file.bad("L27", node.lineno, "an exponent that is not from 0 to 64")
        if isinstance(operation, ast.Pow) and isinstance(node.right, ast.UnaryOp):
            file.bad("L27", node.lineno, "an exponent below 0")
        if isinstance(node, ast.Compare):
            sides = [node.left] + node.comparators
            for kind, pair in zip(node.ops, zip(sides, sides[1:])):
                constant = [isinstance(side, ast.Constant) and side.value in (None, True, False) for side in pair]
                named = [isinstance(side, ast.Name) for side in pair]
                if isinstance(kind, (ast.Is, ast.IsNot)) and not any(constant) and not any(named):
                    file.bad("L20", node.lineno, "is beside what is no constant")
        if isinstance(node, ast.Call) and isinstance(node.func, ast.Name) and node.func.id == "chr":
            file.bad("L27", node.lineno, "chr")


def check_statements(file):
    for node in file.nodes:
        if isinstance(node, ast.stmt) and not isinstance(node, STATEMENTS):
            file.bad("L6", node.lineno, f"the statement {node.__class__.__name__}")
        if isinstance(node, ast.ExceptHandler) and node.type is None:
            file.bad("L6", node.lineno, "an except without an error class")
        if isinstance(node, ast.ExceptHandler) and isinstance(node.type, ast.Name):
            if node.type.id in ("Exception", "TypeError", "ArithmeticError", "OverflowError", "RuntimeError",
                                "NotImplementedError", "AttributeError", "BaseException"):
                file.bad("L19", node.lineno, f"except {node.type.id}")
        if isinstance(node, ast.ClassDef) and (node.decorator_list or node.keywords):
            file.bad("L5", node.lineno, "a decorator or keyword of a class")
        if isinstance(node, ast.FunctionDef):
            for decorator in node.decorator_list:
                if ast.unparse(decorator).split(".")[-1] not in ("property", "setter", "staticmethod", "classmethod"):
                    file.bad("L4", node.lineno, "a decorator")
            for default in node.args.defaults + node.args.kw_defaults:
                if isinstance(default, (ast.List, ast.Dict, ast.Set, ast.Call, ast.Lambda)):
                    file.bad("L4", node.lineno, "a default value that is not plain")
    for node in file.tree.body:
        if isinstance(node, ast.ClassDef):
            for part in node.body:
                if not isinstance(part, (ast.FunctionDef, ast.Assign, ast.Pass)) and not is_docstring(part):
                    file.bad("L5", part.lineno, "a statement in a class")
    inner = [part for node in file.nodes if not isinstance(node, ast.Module) for part in ast.iter_child_nodes(node)]
    for node in inner:
        if isinstance(node, (ast.ClassDef, ast.Import, ast.ImportFrom)):
            file.bad("L15", node.lineno, "a class or import that is not at module level")


def check_bindings(file):
    names = []
    for node in file.tree.body:
        if isinstance(node, (ast.FunctionDef, ast.ClassDef)):
            names.append((node.name, node.lineno))
        elif isinstance(node, ast.Assign):
            names.extend((target.id, node.lineno) for target in node.targets if isinstance(target, ast.Name))
        elif isinstance(node, (ast.Import, ast.ImportFrom)):
            names.extend((alias.asname or alias.name, node.lineno) for alias in node.names)
    seen = set()
    for name, line in names:
        if name in seen:
            file.bad("L15", line, f"{name} is bound twice")
        seen.add(name)
    classes = {node.name for node in file.tree.body if isinstance(node, ast.ClassDef)}
    imports = {alias.asname or alias.name for node in file.tree.body if isinstance(node, (ast.Import, ast.ImportFrom))
               for alias in node.names}
    for node in file.nodes:
        if isinstance(node, FUNCTIONS):
            for part in ast.walk(node):
                if isinstance(part, (ast.arg, ast.Name)):
                    for name in bound_names(part):
                        if name in classes | imports:
                            file.bad("L15", part.lineno, f"{name} has the name of a class or an import")


def module_tables(tree):
    """The names of lists and dicts at module level, the imported ones too."""
    found = set()
    for node in tree.body:
        if isinstance(node, ast.Assign) and isinstance(node.value, (ast.List, ast.Dict)):
            found.add(node.targets[0].id)
        if isinstance(node, ast.ImportFrom) and (node.module or "").startswith("peristyle."):
            told = file_tables(PACKAGE.parent / (node.module.replace(".", "/") + ".py"))
            found |= told & {alias.name for alias in node.names}
    return found


@functools.cache
def file_tables(path):
    return module_tables(ast.parse(path.read_text())) if path.exists() else set()


def check_tables(file):
    """L15: a list or dict at module level is only read on the spot, or copied."""
    tables = module_tables(file.tree)
    fine = set()
    for node in file.nodes:
        if isinstance(node, (ast.Subscript, ast.Attribute)):
            fine.add(id(node.value))
        if isinstance(node, ast.Compare):
            fine.update(id(side) for side in [node.left] + node.comparators)
        if isinstance(node, (ast.For, ast.comprehension)):
            fine.add(id(node.iter))
        if isinstance(node, ast.Call) and isinstance(node.func, ast.Name) and node.func.id in BUILTINS:
            fine.update(id(arg) for arg in node.args)
    for node in file.nodes:
        if isinstance(node, ast.Name) and isinstance(node.ctx, ast.Load) and node.id in tables and id(node) not in fine:
            file.bad("L15", node.lineno, f"{node.id} is passed on")


CHECKS = (check_tables, check_characters, check_sizes, check_imports, check_module_level, check_names, check_attributes, check_builtins,
          check_words, check_strings, check_operations, check_statements, check_bindings) + USES


def mistakes(name, text):
    file = File(name, text)
    for check in CHECKS:
        check(file)
    return file.found


def package_paths():
    return sorted(path for path in PACKAGE.rglob("*") if "__pycache__" not in path.parts)


def package_files():
    return [path for path in package_paths() if path.is_file()]


class PackageTest(unittest.TestCase):
    def test_each_file_keeps_the_rules(self):
        for path in package_files():
            with self.subTest(path.name):
                self.assertEqual(mistakes(path.name, path.read_text(encoding="utf-8")), [])

    def test_the_folder_has_files_with_plain_names_alone(self):
        self.assertTrue((PACKAGE / "__init__.py").is_file())
        for path in package_paths():
            with self.subTest(path.name):
                if path.is_dir():
                    self.assertTrue((path / "__init__.py").is_file())
                else:
                    self.assertEqual(path.suffix, ".py")
                stem = path.stem
                self.assertRegex(stem, r"^[a-z0-9_]+$")
                if stem not in ("__init__", "__main__"):
                    self.assertNotIn(stem, dir(builtins))
                    self.assertNotIn(stem, BARRED_FILES + BARRED_WORDS + list(BARRED_PARTS))
                    self.assertFalse(stem.startswith(("law_", "test_")) or keyword.iskeyword(stem))
        self.assertLessEqual(len(package_files()), 100)

    def test_no_tests_stand_in_the_package(self):
        for path in package_files():
            self.assertNotIn("unittest", path.read_text(encoding="utf-8"))

    def test_imports_name_the_file_that_defines_and_make_no_circle(self):
        trees = {"peristyle." + path.stem: ast.parse(path.read_text()) for path in package_files()}
        needs = {}
        for module, tree in trees.items():
            needs[module] = []
            for node in tree.body:
                if isinstance(node, ast.ImportFrom) and node.module in trees:
                    needs[module].append(node.module)
                    defined = {name for part in trees[node.module].body if not isinstance(part, ast.ImportFrom)
                               for inner in [part] + list(ast.iter_child_nodes(part)) for name in bound_names(inner)}
                    for alias in node.names:
                        self.assertIn(alias.name, defined, (module, node.module))
        done = []
        while len(done) < len(needs):
            free = [module for module in needs if module not in done and all(need in done for need in needs[module])]
            self.assertTrue(free, "files that import from each other")
            done += free

    def test_classes_and_calls_of_the_whole_package(self):
        trees = {path.name: ast.parse(path.read_text()) for path in package_files()}
        self.assertEqual(check_classes(trees), [])
        self.assertEqual(check_arguments(trees), [])

    def test_no_import_and_no_private_function_is_left_over(self):
        for path in package_files():
            self.assertEqual(unused_names(File(path.name, path.read_text(encoding="utf-8"))), [], path.name)

    def test_no_line_gives_a_warning(self):
        with warnings.catch_warnings():
            warnings.simplefilter("error")
            for path in package_files():
                compile(path.read_text(encoding="utf-8"), str(path), "exec")


BARRED_ATTRIBUTES = """items keys values pop update append clear extend insert remove reverse setdefault sort args encode
decode hex fromhex format as_integer_ratio bit_count conjugate from_bytes is_integer to_bytes real numerator isupper
startswith splitlines discard union popitem fromkeys maketrans rjust bit_length""".split()
NOT_ITERATED = [f"def f(a, b):\n    {line}" for line in (
    "return range(a)", "return (range(a), b)", "c = range(a) if b else [1]\n    return [x for x in c]",
    "c = [1] if b else range(a)\n    return [x for x in c]", "return f(range(a), b)", "a.b = range(3)", "a[0] = zip(a, b)",
    "c = zip(a, b)\n    for x in c:\n        pass\n    for x in c:\n        pass", "return zip(a, b)",
    "c = range(a)\n    return c", "c = range(a)\n    return f(c, b)", "c = range(a)\n    c = [1]\n    return c[0]",
    "c = range(a)\n    if c:\n        return 1", "c = range(a)\n    return lambda: c[0]", "c = a.items()\n    return c[0]",
    "c: int = range(a)\n    return c[0]", "c = d = range(a)\n    return c[0]", "b = range(a)\n    return b[0]",
    "c = a.values()\n    return c", "c = a.values()\n    return list(enumerate(c))", "return a.keys()",
    "return len(zip(a, b))", "return len(enumerate(a))", "return reversed(a)", "return list(reversed(a.items()))",
    "return list(reversed(zip(a, b)))", "return a in b.values()", "return a in b.items()", "return a in zip(a, b)",
    "return range(a) == range(b)", "return a == b.keys()", "return list(zip(a, range(3)))", "return list(zip(a, b.values()))",
    "return max(range(a), key=b)", "c = [range(a)]\n    return c", "return (range(a),)", "return {1: range(a)}", "if range(a):\n        return 1",
    "return f(*range(a))", "return range(a) + [1]", "if (c := range(a)):\n        return c", "return a.fromkeys(range(3))", "return a.join(b.keys())",
    "yield from range(a)", "return list(map(str, range(a)))", "return not a.items()", "return a.items().b", "b.c, d = zip(a, a), 1", "return f'{range(a)}'",
    "return max(a, b.values())", "return max(*a.values())", "return [*range(a)]", "return range(a)[0]",
    "c, d = zip(a, b)\n    return c", "c, *d = range(a)\n    return c", "a.extend(b.items())", "a += range(3)",
    "return set(a.values())", "return a or b.values()", "return lambda: range(a)",
    "for x in range(a) if b else range(3):\n        pass", "for x in a.items() or b:\n        pass",
    "c = enumerate(a)\n    for x in b:\n        for y in c:\n            pass", "yield a", "return str(range(a))",
    "for x in a:\n        a.append(x)", "for x, y in a.items():\n        a[x] = 1", "for x, y in enumerate(a):\n        del a[x]",
    "for x in a.b:\n        a.b.pop()", "for x in (a if b else [1]):\n        a.append(x)",
)]
ITERATED = [f"def f(a, b):\n    {line}" for line in (
    "for x in range(a):\n        pass", "return [x for x in zip(a, b)]", "return list(range(a))", "return tuple(zip(a, b))",
    "return dict(zip(a, b))", "return sorted(a.items())", "return sum(a.values())", "return max(a.values())",
    "return max(a.values(), default=0)", "return list(enumerate(a.items()))", "return list(zip(a.values(), b))",
    "return ','.join(a.keys())", "return len(a.items())", "return len(range(a))", "return list(reversed(range(a)))",
    "return a in b.keys()", "return a in range(b)", "c = range(a)\n    return [c[0], len(c), a in c, list(c)]",
    "c = zip(a, b)\n    return list(c)", "c = a.items()\n    return len(c) + max(c)", "c = range(a)\n    return list(zip(c, b))",
    "c = zip(a, b)\n    for x in c:\n        pass", "return {k: v for k, v in a.items()}", "return list(reversed(a))",
    "for x in list(a):\n        a.append(x)", "for x in a:\n        b.append(x)", "return any(a.values())",
)]


class ChecksTest(unittest.TestCase):
    """The checks find what breaks a rule, and nothing in what keeps them."""

    GOOD = '''"""A docstring with the word type."""

from heapq import heappush
from peristyle.errors import BadForm

NORTH = 0
STEPS = ((0, 1), (1, 0))


class Box:
    """A box."""

    def __init__(self, rows):
        self.rows = [n // 2 ** 3 for n in rows]

    def many(self):
        return len(self.rows)


def told(box, at=0):
    """Tell a thing."""
    if box is None or at < 0:
        raise BadForm()
    for _ in range(3):
        heappush(box.rows, at)
    return f"{box.many()} of {at}"
'''
    BAD = {
        "L2": ["import random", "import sys", "from os import path", "from . import value", "from peristyle.value import *",
               "X = 1\nfrom peristyle.value import order", "from math import sqrt", "from heapq import heappop as pop"],
        "L3": ["X, Y = 1, 2", "X = len('abc')", "for x in (1, 2):\n    pass", "X = [n for n in (1, 2)]", "f = lambda: 0"],
        "L4": ["def f(x=[]):\n    return x", "@told\ndef f():\n    return 1"],
        "L5": ["class A:\n    if True:\n        x = 1"],
        "L6": ["def f():\n    global x\n    x = 1", "async def f():\n    pass",
               "def f():\n    try:\n        pass\n    except:\n        pass"],
        "L7": ["def f(a):\n    return a / 2", "X = 1.5", "def f(a):\n    return (x for x in a)"],
        "L8": ["def f(x):\n    return print(x)", "def f(x):\n    return type(x)", "def f(x):\n    return x.__dict__",
               "def f():\n    return round(1)", "def __odd__():\n    return 1"],
        "L10": ["X = '" + "x" * 120 + "'", "def f():\n" + "    f()\n" * 40, "X = 1\n" + "\n" * 398 + "Y = 1"],
        "L12": ["def f():\n    _ = 1\n    return _", "_1 = 2", "class _A:\n    pass", "_law_x = 1"],
        "L14": ["# caf" + chr(233), "X = 1\t# x", "X = '" + chr(0x20ac) + "'"],
        "L15": ["X = [[1]]", "X = 1\nX = 2", "def f(id):\n    return id", "def f():\n    sum = 1\n    return sum",
                "class A:\n    pass\n\n\ndef f(A):\n    return A", "X = [1]\n\n\ndef f():\n    return X",
                "X = {1: 2}\n\n\ndef f():\n    return f(X)", "X = {1: 2}\n\n\ndef f():\n    y = X\n    return y",
                "def f():\n    class B:\n        pass"],
        "L16": ["import peristyle", "from peristyle.nothing import x"],
        "L17": ["X = 'a'\nY = 'namedtuple'", "def f(x):\n    return x.mro", "def f(x):\n    x.f_back = 1",
                "def compile(x):\n    return x", "def f(vars):\n    return vars", "from peristyle.value import Enum"],
        "L19": ["def f():\n    try:\n        pass\n    except TypeError:\n        pass"],
        "L13": ["def f(xs):\n    return sorted(xs, key=lambda x: x), sorted(xs, key=lambda x: -x)"],
        "L20": ["def f(a):\n    return a.b is 'x'", "def f(a):\n    return a[0] is a[1]"],
        "L22": ["def f(xs):\n    return isinstance(xs, (int, object))", "def f(xs):\n    return int(xs, base=2)",
                "def f(xs):\n    return xs(range)"],
        "L23": NOT_ITERATED,
        "L24": ["def f(xs):\n    for x in set(xs):\n        f(x)", "def f(xs):\n    return {1, xs}",
                "def f(xs):\n    a = set(xs)\n    return a", "def f(d):\n    return 1 in set(d.keys())",
                "def f(xs):\n    a = set(xs)\n    return [x for x in a]", "def f(a):\n    a.b = set()"],
        "L25": ["def f(x):\n    return x.ljust(3).as_integer_ratio()", "def f(x):\n    return x.popitem()"],
        "L26": ["class A:\n    def __init__(self):\n        self." + name + " = 1" for name in BARRED_ATTRIBUTES]
               + ["def f(x):\n    x.args = 1", "def f(x):\n    x.args += 1", "def f(x):\n    x.args: int = 1",
                  "def f(x):\n    for x.args in (1, 2):\n        pass", "def f(x):\n    y, x.args = 1, 2",
                  "def f(x):\n    setattr(x, 'args', 1)", "def f(x):\n    return x.args", "class A:\n    args = 1",
                  "class A:\n    __slots__ = ('args',)", "def f(x):\n    with x as x.args:\n        pass",
                  "def f(x):\n    match x:\n        case A(args=1):\n            return 1",
                  "class A:\n    def decode(self):\n        return 1", "class A:\n    def title(self):\n        return 1"],
        "L27": ["X = 'a" + PERCENT + "'", "X = '\\x41'", "def f(n):\n    return f'{n}" + PERCENT + "'", "X = 'a._'", "def f(n):\n    return chr(n)", "X = 2 ** 65",
                "X = '__odd__'"],
    }

    def test_good_code(self):
        self.assertEqual(mistakes("good.py", self.GOOD), [])
        for text in ITERATED:
            with self.subTest(text):
                found = [line for line in mistakes("good.py", text) if "L23" in line or "L22" in line]
                self.assertEqual(found, [])

    def test_bad_classes_and_calls(self):
        for text in ("class A:\n    def f(self):\n        self.f = 1", "def f(x):\n    return x.nowhere", "def f(x):\n    return x.nowhere()",
                     "class A:\n    def f(self):\n        return 1\n\n\nclass B(A):\n    def g(self):\n        self.f = 1"):
            self.assertNotEqual(check_classes({"a.py": ast.parse(text)}), [], text)
        for text in ("def f(a, b=1):\n    return f()", "def f(a):\n    return f(a, 1)", "def f(a):\n    return f(b=a)", "def f(*, a):\n    return f(1)",
                     "class A:\n    def __init__(self, a):\n        self.a = a\n\n\ndef f():\n    return A()", "class A:\n    pass\n\n\ndef f():\n    return A(1)"):
            self.assertNotEqual(check_arguments({"a.py": ast.parse(text)}), [], text)
        for text in ("from peristyle.value import order", "def _f():\n    return 1", "_X = 1"):
            self.assertNotEqual(unused_names(File("a.py", text)), [], text)
        trees = {"good.py": ast.parse(self.GOOD)}
        self.assertEqual(check_classes(trees) + check_arguments(trees) + unused_names(File("good.py", self.GOOD)), [])

    def test_bad_code(self):
        for rule, texts in self.BAD.items():
            for text in texts:
                with self.subTest(rule=rule, text=text):
                    found = mistakes("bad.py", text)
                    self.assertTrue(any(" " + rule + ":" in line for line in found), found)


if __name__ == "__main__":
    unittest.main()
