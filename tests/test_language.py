"""The rules of LANGUAGE.md that can be seen row by row, asked of every file of the package."""

import ast
import builtins
import re
import unittest
from pathlib import Path

PACKAGE = Path(__file__).resolve().parent.parent / "earthends"
FILES = sorted(PACKAGE.glob("*.py"))

ALLOWED_BUILTINS = set(
    "len range enumerate zip min max sum abs sorted reversed int str bool list tuple dict set isinstance ord repr any all "
    "divmod bytes frozenset super property staticmethod classmethod Exception ValueError TypeError KeyError IndexError "
    "LookupError ZeroDivisionError ArithmeticError OverflowError RuntimeError NotImplementedError AttributeError "
    "StopIteration NotImplemented".split())
BARRED_WORDS = (
    "type typing typing_extensions enum Enum IntEnum StrEnum Flag IntFlag Generic Protocol ABC ABCMeta namedtuple NamedTuple "
    "TypedDict TYPE_CHECKING abstractmethod").split()
BARRED_NAMES = set(
    "register mro elements open input version_info with_traceback add_note attrgetter breakpoint builtins compile copyright "
    "credits delattr dir eval exec exit gc getattr globals hasattr help id importlib license locals methodcaller os quit "
    "setattr sys vars".split())
METHODS = set(
    "append clear copy count endswith extend find get index insert isalnum isalpha isdigit islower isspace isupper items join "
    "keys ljust lower lstrip partition pop remove replace reverse rfind rjust rpartition rsplit rstrip setdefault split "
    "splitlines startswith strip update upper values zfill bit_length add discard sort".split())
BARRED_NODES = (
    ast.Global, ast.AsyncFunctionDef, ast.AsyncFor, ast.AsyncWith, ast.Await, ast.Div, ast.Import, ast.MatMult,
)


def trees():
    for path in FILES:
        text = path.read_text(encoding="ascii")
        yield path, text, ast.parse(text)


def bound_names(tree):
    """All names that a file binds, wherever."""
    for node in ast.walk(tree):
        if isinstance(node, ast.Name) and not isinstance(node.ctx, ast.Load):
            yield node.id
        elif isinstance(node, (ast.FunctionDef, ast.ClassDef)):
            yield node.name
        elif isinstance(node, ast.arg):
            yield node.arg
        elif isinstance(node, ast.alias):
            yield node.asname or node.name
        elif isinstance(node, ast.ExceptHandler) and node.name:
            yield node.name


def module_names(tree):
    for node in tree.body:
        if isinstance(node, ast.ImportFrom):
            yield from (alias.asname or alias.name for alias in node.names)
        elif isinstance(node, (ast.FunctionDef, ast.ClassDef)):
            yield node.name
        elif isinstance(node, ast.Assign):
            yield from (target.id for target in node.targets)


class Rows(unittest.TestCase):
    def test_folder_and_files(self):
        names = [path.name for path in PACKAGE.iterdir() if path.name != "__pycache__"]
        self.assertEqual(sorted(names), [path.name for path in FILES])
        for path in FILES:
            self.assertRegex(path.name, r"^(__init__|[a-z][a-z0-9_]*)\.py$")

    def test_signs_and_sizes(self):
        for path, text, tree in trees():
            self.assertRegex(text, r"\A[\n -~]*\Z", path.name)
            rows = text.split("\n")
            self.assertLessEqual(len(rows), 400, path.name)
            self.assertLessEqual(max(len(row) for row in rows), 120, path.name)
            for node in ast.walk(tree):
                if isinstance(node, ast.FunctionDef):
                    self.assertLessEqual(node.end_lineno - node.lineno + 1, 40, (path.name, node.name))

    def test_barred_words(self):
        for path, text, _ in trees():
            for word in re.findall(r"\w+", text):
                self.assertNotIn(word, BARRED_WORDS, path.name)
            self.assertNotRegex(text, "dataclass|overload|contextmanager", path.name)

    def test_barred_statements_and_values(self):
        for path, _, tree in trees():
            for node in ast.walk(tree):
                self.assertNotIsInstance(node, BARRED_NODES, path.name)
                if isinstance(node, ast.Constant):
                    self.assertNotIsInstance(node.value, (float, complex), path.name)
                    self.assertFalse(isinstance(node.value, str) and "%" in node.value, path.name)
                if isinstance(node, ast.BinOp) and isinstance(node.op, ast.Pow):
                    self.assertIsInstance(node.right, ast.Constant, path.name)

    def test_is_only_with_none_and_truths(self):
        for path, _, tree in trees():
            for node in ast.walk(tree):
                if isinstance(node, ast.Compare):
                    for sign, right in zip(node.ops, node.comparators):
                        if isinstance(sign, (ast.Is, ast.IsNot)):
                            self.assertIsInstance(right, ast.Constant, (path.name, node.lineno))
                            self.assertIn(right.value, (None, True, False), (path.name, node.lineno))

    def test_names(self):
        for path, _, tree in trees():
            for name in bound_names(tree):
                if name != "__init__":
                    self.assertRegex(name, r"^[A-Za-z][A-Za-z0-9_]*$", path.name)
                    self.assertNotIn(name, BARRED_NAMES, path.name)
            top = list(module_names(tree))
            self.assertEqual(len(top), len(set(top)), path.name)

    def test_no_local_hides_an_import_a_class_or_a_builtin(self):
        for path, _, tree in trees():
            taken = set(dir(builtins))
            for node in tree.body:
                if isinstance(node, ast.ImportFrom):
                    taken.update(alias.asname or alias.name for alias in node.names)
                elif isinstance(node, ast.ClassDef):
                    taken.add(node.name)
            for function in ast.walk(tree):
                if isinstance(function, ast.FunctionDef):
                    for node in ast.walk(function):
                        name = getattr(node, "arg", None) if isinstance(node, ast.arg) else None
                        if isinstance(node, ast.Name) and not isinstance(node.ctx, ast.Load):
                            name = node.id
                        self.assertNotIn(name, taken, (path.name, function.name))

    def test_builtins_and_methods(self):
        own = {name for _, _, tree in trees() for name in bound_names(tree)}
        stored = {node.attr for _, _, tree in trees() for node in ast.walk(tree)
                  if isinstance(node, ast.Attribute) and isinstance(node.ctx, ast.Store)}
        for path, _, tree in trees():
            here = set(bound_names(tree))
            for node in ast.walk(tree):
                if isinstance(node, ast.Name) and node.id not in here:
                    self.assertIn(node.id, ALLOWED_BUILTINS, (path.name, node.lineno))
                if isinstance(node, ast.Attribute):
                    self.assertIn(node.attr, METHODS | own | stored, (path.name, node.lineno))

    def test_no_name_is_a_method_and_an_attribute(self):
        methods, stored = set(), set()
        for _, _, tree in trees():
            for node in ast.walk(tree):
                if isinstance(node, ast.ClassDef):
                    methods.update(part.name for part in node.body if isinstance(part, ast.FunctionDef))
                if isinstance(node, ast.Attribute) and isinstance(node.ctx, ast.Store):
                    stored.add(node.attr)
        self.assertEqual(methods & stored, set())

    def test_module_level(self):
        for path, _, tree in trees():
            for at, node in enumerate(tree.body):
                doc = at == 0 and isinstance(node, ast.Expr) and isinstance(node.value, ast.Constant)
                kinds = (ast.ImportFrom, ast.FunctionDef, ast.ClassDef, ast.Assign)
                self.assertTrue(doc or isinstance(node, kinds), (path.name, node.lineno))

    def test_raise_makes_its_error_on_the_spot(self):
        for path, _, tree in trees():
            for node in ast.walk(tree):
                if isinstance(node, ast.Raise) and node.exc is not None:
                    self.assertIsInstance(node.exc, ast.Call, (path.name, node.lineno))
                    self.assertIsInstance(node.exc.func, ast.Name, (path.name, node.lineno))


class Interface(unittest.TestCase):
    METHODS = {
        "Story": "cut tell many leaks lengths", "Book": "enter strike mend back cable days telling clash", "Desk": "say",
    }

    def test_methods_stand_in_their_own_class(self):
        found = {}
        for _, _, tree in trees():
            for node in tree.body:
                if isinstance(node, ast.ClassDef):
                    found[node.name] = {part.name for part in node.body if isinstance(part, ast.FunctionDef)}
        for name, methods in self.METHODS.items():
            self.assertLessEqual(set(methods.split()), found[name], name)


class Imports(unittest.TestCase):
    def test_from_the_defining_files_and_in_no_circle(self):
        defined = {path.stem: set(module_names(tree)) for path, _, tree in trees()}
        reached = {}
        for path, _, tree in trees():
            imported = set()
            reached[path.stem] = set()
            for node in tree.body:
                if isinstance(node, ast.ImportFrom):
                    package, _, module = node.module.partition(".")
                    self.assertEqual((package, node.level), ("earthends", 0), path.name)
                    reached[path.stem].add(module)
                    for alias in node.names:
                        self.assertIn(alias.name, defined[module], path.name)
                        imported.add((module, alias.name))
            used = {node.id for node in ast.walk(tree) if isinstance(node, ast.Name)}
            self.assertEqual({name for _, name in imported} - used, set(), path.name)
            for module, name in imported:
                source = ast.parse((PACKAGE / f"{module}.py").read_text())
                makers = [node for node in source.body if not isinstance(node, ast.ImportFrom)]
                self.assertIn(name, module_names(ast.Module(makers, [])), path.name)
        self.assert_no_circle(reached)

    def test_the_checker_imports_the_first_four_stages_alone(self):
        stages = {"fractions", "cables", "cabletexts", "leaks", "stretches", "measures"}
        parts = {path.stem for path in FILES if path.stem.startswith("check")}
        self.assertLessEqual({"checker", "checkleaks", "checkcuts", "checklamp", "checkdays"}, parts)
        for path, _, tree in trees():
            modules = {node.module.partition(".")[2] for node in ast.walk(tree) if isinstance(node, ast.ImportFrom)}
            if path.stem in parts:
                self.assertLessEqual(modules, stages | parts, path.name)
            elif path.stem in stages:
                self.assertLessEqual(modules, stages | {"errors"}, path.name)

    def assert_no_circle(self, reached):
        left = dict(reached)
        while left:
            free = [name for name in left if not any(other in left for other in left[name])]
            self.assertTrue(free, left)
            for name in free:
                del left[name]


if __name__ == "__main__":
    unittest.main()
