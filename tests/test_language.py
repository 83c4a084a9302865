"""The plain rules of the language that the package is written in, by number.

Only rules that can be seen file by file, without following values, are looked at.
"""

import ast
import builtins
import re
import unittest
import warnings
from pathlib import Path

PACKAGE = Path(__file__).resolve().parent.parent / "moorwalk"

BUILTINS = set(
    "len range enumerate zip min max sum abs sorted reversed int str bool list tuple dict set"
    " isinstance ord repr any all divmod iter next Exception ValueError TypeError KeyError"
    " IndexError LookupError ZeroDivisionError RuntimeError StopIteration".split()
)
METHODS = set(
    "append clear copy count endswith extend find get index insert isalnum isalpha isdigit"
    " islower isspace isupper items join keys ljust lower lstrip partition pop remove replace"
    " reverse rfind rjust rpartition rsplit rstrip setdefault split splitlines startswith strip"
    " update upper values zfill bit_length add discard sort".split()
)
BARRED_WORDS = set(
    "type typing typing_extensions enum Enum IntEnum StrEnum Flag IntFlag Generic Protocol ABC"
    " ABCMeta namedtuple NamedTuple TypedDict TYPE_CHECKING abstractmethod".split()
)
BARRED_PARTS = ("dataclass", "overload", "contextmanager")
BARRED_NAMES = set(
    "register mro elements open input law version_info with_traceback add_note attrgetter"
    " breakpoint builtins compile copyright credits delattr dir eval exec exit gc getattr"
    " globals hasattr help id importlib license locals methodcaller os quit setattr super"
    " type vars sys format format_map".split()
)
BARRED_NODES = (
    ast.Global, ast.AsyncFunctionDef, ast.AsyncFor, ast.AsyncWith, ast.Await, ast.Import, ast.Div,
)
SPECIAL = re.compile(r"__(init|eq|repr|str|len)__$")


def sources():
    for path in sorted(PACKAGE.iterdir()):
        if path.name != "__pycache__":
            yield path.name, path.read_text(encoding="utf-8")


def trees():
    for name, text in sources():
        yield name, ast.parse(text)


def bound_names(tree):
    """Each name that is bound, with its line."""
    for node in ast.walk(tree):
        if isinstance(node, ast.Name) and isinstance(node.ctx, ast.Store):
            yield node.id, node.lineno
        elif isinstance(node, ast.arg):
            yield node.arg, node.lineno
        elif isinstance(node, (ast.FunctionDef, ast.ClassDef)):
            yield node.name, node.lineno


def names_in(tree):
    """Each name that is bound or read, an attribute's too, with its line."""
    yield from bound_names(tree)
    for node in ast.walk(tree):
        if isinstance(node, ast.Name) and isinstance(node.ctx, ast.Load):
            yield node.id, node.lineno
        elif isinstance(node, ast.Attribute):
            yield node.attr, node.lineno


def imported(tree):
    """Each name that is imported, with the module it comes from."""
    for node in tree.body:
        if isinstance(node, ast.ImportFrom):
            for one in node.names:
                yield one.name, one.asname or one.name, node.module


class LanguageTest(unittest.TestCase):
    def none_found(self, rule, found):
        self.assertEqual([f"{rule} {one}" for one in found], [])

    def test_folder(self):
        self.none_found("L1", [
            name for name, _ in sources() if not re.fullmatch(r"[a-z0-9_]+\.py", name)
        ])
        self.assertTrue((PACKAGE / "__init__.py").exists())

    def test_imports(self):
        files = {f"moorwalk.{name[:-3]}": tree for name, tree in trees()}
        for module, tree in files.items():
            for name, _, source in imported(tree):
                with self.subTest(f"{module} {name}"):
                    self.assertIn(source, files, "L2")
                    defined = [one for one, _ in bound_names(ast.Module(files[source].body, []))]
                    self.assertIn(name, defined, "L16")
            for node in ast.walk(tree):
                if isinstance(node, ast.ImportFrom):
                    self.assertIn(node, tree.body, "L2")
                    self.assertEqual(node.level, 0, "L2")

    def test_no_import_leads_around(self):
        leads = {
            f"moorwalk.{name[:-3]}": {source for _, _, source in imported(tree)}
            for name, tree in trees()
        }
        while leads:
            free = [name for name, sources_of in leads.items() if not sources_of & set(leads)]
            self.assertTrue(free, f"L16 {sorted(leads)}")
            for name in free:
                del leads[name]

    def test_module_level(self):
        allowed = (ast.ImportFrom, ast.FunctionDef, ast.ClassDef, ast.Assign, ast.Expr)
        for name, tree in trees():
            for node in tree.body:
                with self.subTest(f"L3 {name}:{node.lineno}"):
                    self.assertIsInstance(node, allowed)
                    if isinstance(node, ast.Expr):
                        self.assertIsInstance(node.value, ast.Constant)
            bound = [one for _, one, _ in imported(tree)]
            for node in tree.body:
                if isinstance(node, (ast.FunctionDef, ast.ClassDef)):
                    bound.append(node.name)
                elif isinstance(node, ast.Assign):
                    bound.extend(target.id for target in node.targets)
            self.assertEqual(len(bound), len(set(bound)), f"L15 {name}")

    def test_nodes(self):
        for name, tree in trees():
            self.none_found("L6 L7", [
                f"{name}:{node.lineno}" for node in ast.walk(tree)
                if isinstance(node, BARRED_NODES) and hasattr(node, "lineno")
                or isinstance(node, (ast.BinOp, ast.AugAssign)) and isinstance(node.op, ast.Div)
                or isinstance(node, ast.Constant) and isinstance(node.value, (float, complex))
            ])
            for node in ast.walk(tree):
                if isinstance(node, ast.Compare) and isinstance(node.ops[0], (ast.Is, ast.IsNot)):
                    self.assertIsInstance(node.comparators[0], ast.Constant, f"L20 {name}")

    def test_names(self):
        for name, tree in trees():
            shadowed = {one for _, one, _ in imported(tree)}
            shadowed |= {node.name for node in tree.body if isinstance(node, ast.ClassDef)}
            for one, line in names_in(tree):
                with self.subTest(f"{name}:{line} {one}"):
                    self.assertTrue(one.isascii() and (one[0] != "_" or SPECIAL.match(one)), "L12")
                    self.assertNotIn(one, BARRED_NAMES, "L17")
            for one, line in bound_names(tree):
                with self.subTest(f"{name}:{line} {one}"):
                    self.assertFalse(hasattr(builtins, one) and one[0] != "_", "L15")
            inner = [node for top in tree.body for node in ast.walk(top) if node is not top]
            for node in inner:
                if isinstance(node, ast.Name) and isinstance(node.ctx, ast.Store):
                    self.assertNotIn(node.id, shadowed, f"L15 {name}:{node.lineno}")
                elif isinstance(node, ast.arg):
                    self.assertNotIn(node.arg, shadowed, f"L15 {name}:{node.lineno}")

    def test_builtins_and_methods(self):
        own = {
            node.name for _, tree in trees() for node in ast.walk(tree)
            if isinstance(node, ast.FunctionDef)
        }
        for name, tree in trees():
            for node in ast.walk(tree):
                if isinstance(node, ast.Name) and hasattr(builtins, node.id):
                    self.assertIn(node.id, BUILTINS, f"L8 {name}:{node.lineno}")
                if isinstance(node, ast.Call) and isinstance(node.func, ast.Attribute):
                    self.assertIn(node.func.attr, METHODS | own, f"L25 {name}:{node.lineno}")
                if isinstance(node, ast.FunctionDef):
                    self.assertEqual(node.decorator_list, [], f"L4 {name}:{node.lineno}")
                    self.assertEqual(node.args.posonlyargs, [], f"L4 {name}:{node.lineno}")

    def test_methods_and_attributes(self):
        methods, attributes = set(), set()
        for _, tree in trees():
            for node in ast.walk(tree):
                if isinstance(node, ast.ClassDef):
                    methods |= {one.name for one in node.body if isinstance(one, ast.FunctionDef)}
                elif isinstance(node, ast.Attribute) and isinstance(node.ctx, ast.Store):
                    attributes.add(node.attr)
        self.none_found("L18", sorted(methods & attributes))
        self.none_found("L26", sorted((methods | attributes) & METHODS))

    def test_size(self):
        for name, text in sources():
            rows = text.split("\n")
            self.assertLess(len(rows) - 1, 400, f"L10 {name}")
            self.none_found("L10", [
                f"{name}:{at}" for at, row in enumerate(rows, 1) if len(row) > 120
            ])
        for name, tree in trees():
            self.none_found("L10", [
                f"{name}:{node.lineno}" for node in ast.walk(tree)
                if isinstance(node, ast.FunctionDef) and node.end_lineno - node.lineno >= 40
            ])

    def test_characters_and_words(self):
        for name, text in sources():
            self.none_found("L14", [
                f"{name} {sign!r}" for sign in sorted(set(text)) if sign != "\n" and not " " <= sign <= "~"
            ])
            words = set(re.findall(r"\w+", text))
            self.none_found("L17", [f"{name} {word}" for word in sorted(words & BARRED_WORDS)])
            self.none_found("L17", [f"{name} {part}" for part in BARRED_PARTS if part in text])

    def test_strings_and_warnings(self):
        for name, tree in trees():
            for node in ast.walk(tree):
                if isinstance(node, ast.Constant) and isinstance(node.value, str):
                    where = f"L27 {name}:{node.lineno}"
                    self.assertNotIn(chr(37), node.value, where)
                    self.assertFalse(node.value.endswith(("._", ".__")), where)
        for name, text in sources():
            with warnings.catch_warnings():
                warnings.simplefilter("error")
                compile(text, name, "exec")


if __name__ == "__main__":
    unittest.main()
