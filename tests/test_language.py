"""The package keeps to its small subset of Python, as far as a short test can see it."""

import ast
import builtins
import pathlib
import re
import unittest

PACKAGE = pathlib.Path(__file__).resolve().parent.parent / "quietpairs"
FILES = sorted(PACKAGE.rglob("*.py"))
BUILTINS = set("""
    len range enumerate zip min max sum abs sorted reversed int str bool bytes list tuple dict set frozenset isinstance
    ord repr any all divmod pow getattr hasattr setattr iter next map super property staticmethod classmethod
    ValueError TypeError KeyError IndexError LookupError NotImplemented
""".split())
METHODS = set("""
    append clear copy count endswith extend find get index insert isalnum isalpha isdigit islower isspace isupper items
    join keys ljust lower lstrip partition pop remove replace reverse rfind rjust rpartition rsplit rstrip setdefault
    split splitlines startswith strip update upper values zfill bit_length isascii removeprefix removesuffix
""".split())
BARRED = set("""
    register mro elements open input law version_info with_traceback add_note type typing typing_extensions enum Enum
    IntEnum StrEnum Flag IntFlag Generic Protocol ABC ABCMeta namedtuple NamedTuple TypedDict TYPE_CHECKING
    abstractmethod dataclass overload contextmanager eval exec globals locals vars compile format hash id
""".split())
STATEMENTS = (ast.AsyncFunctionDef, ast.AsyncFor, ast.AsyncWith, ast.Global, ast.Import, ast.GeneratorExp, ast.Set)


def words(tree):
    """Every name, attribute, argument and function of a file."""
    for node in ast.walk(tree):
        for field in ("id", "attr", "arg", "name"):
            if isinstance(getattr(node, field, None), str):
                yield getattr(node, field)


def bound(tree):
    """Every name that a file binds anywhere."""
    for node in ast.walk(tree):
        if isinstance(node, ast.Name) and isinstance(node.ctx, ast.Store):
            yield node.id
        elif isinstance(node, ast.arg):
            yield node.arg
        elif isinstance(node, (ast.FunctionDef, ast.ClassDef)):
            yield node.name
        elif isinstance(node, ast.alias):
            yield node.name


def bound_outside_classes(tree):
    """Every name that a file binds anywhere, except for methods, which are read off objects alone."""
    names = list(bound(tree))
    for node in ast.walk(tree):
        if isinstance(node, ast.ClassDef):
            for method in node.body:
                if isinstance(method, ast.FunctionDef):
                    names.remove(method.name)
    return names


class Language(unittest.TestCase):

    def each(self):
        for path in FILES:
            text = path.read_text(encoding="utf-8")
            yield text, ast.parse(text, path.name)

    def test_files(self):
        self.assertIn(PACKAGE / "__init__.py", FILES)
        others = [p for p in PACKAGE.rglob("*") if p.is_file() and p.suffix != ".py" and p.parent.name != "__pycache__"]
        self.assertEqual(others, [])
        for path in FILES:
            self.assertRegex(path.name, r"\A[a-z_]+\.py\Z")

    def test_characters_and_sizes(self):
        for text, tree in self.each():
            self.assertRegex(text, r"\A[ -~\n]*\Z")
            self.assertLess(len(text.splitlines()), 400)
            self.assertLessEqual(max(map(len, text.splitlines())), 120)
            for node in ast.walk(tree):
                if isinstance(node, ast.FunctionDef):
                    self.assertLessEqual(node.end_lineno - node.lineno + 1, 40, node.name)

    def test_imports(self):
        for _, tree in self.each():
            for node in ast.walk(tree):
                if isinstance(node, ast.ImportFrom):
                    self.assertRegex(node.module, r"\Aquietpairs\.[a-z_]+\Z")
                    self.assertEqual(node.level, 0)
                    self.assertTrue(all(alias.name != "*" and alias.asname is None for alias in node.names))

    def test_statements(self):
        for _, tree in self.each():
            for node in ast.walk(tree):
                self.assertNotIsInstance(node, STATEMENTS)
                self.assertFalse(isinstance(node, ast.Constant) and isinstance(node.value, (float, complex)))
                self.assertFalse(isinstance(node, ast.BinOp) and isinstance(node.op, ast.Div))
            for node in tree.body:
                self.assertIsInstance(node, (ast.Expr, ast.ImportFrom, ast.FunctionDef, ast.ClassDef, ast.Assign))

    def test_names(self):
        plain = re.compile(r"\A(_?[A-Za-z][A-Za-z0-9_]*|__[a-z]+__|_|quietpairs\.[a-z_]+)\Z")
        for _, tree in self.each():
            for word in words(tree):
                self.assertRegex(word, plain)
                self.assertNotIn(word, BARRED)
            for name in bound(tree):
                self.assertFalse(hasattr(builtins, name) and not name.startswith("__"), name)

    def test_builtins_and_methods(self):
        own = set()
        for path in FILES:
            own.update(bound(ast.parse(path.read_text(encoding="utf-8"))))
        for _, tree in self.each():
            for node in ast.walk(tree):
                if isinstance(node, ast.Name) and hasattr(builtins, node.id):
                    self.assertIn(node.id, BUILTINS)
                if isinstance(node, ast.Call) and isinstance(node.func, ast.Attribute):
                    self.assertIn(node.func.attr, METHODS | own)

    def test_names_of_imports_and_classes_mean_nothing_else(self):
        for _, tree in self.each():
            own = [node.name for node in tree.body if isinstance(node, ast.ClassDef)]
            own.extend(alias.name for node in tree.body if isinstance(node, ast.ImportFrom) for alias in node.names)
            names = bound_outside_classes(tree)
            for name in own:
                self.assertEqual(names.count(name), 1, name)

    def test_functions_mean_nothing_else(self):
        for _, tree in self.each():
            names = bound_outside_classes(tree)
            for node in tree.body:
                if isinstance(node, ast.FunctionDef):
                    self.assertEqual(names.count(node.name), 1, node.name)

    def test_sets_are_sorted_on_the_spot(self):
        for _, tree in self.each():
            passed = [id(arg) for node in ast.walk(tree) if isinstance(node, ast.Call)
                      and isinstance(node.func, ast.Name) and node.func.id in ("sorted", "len") for arg in node.args]
            for node in ast.walk(tree):
                if isinstance(node, ast.SetComp):
                    self.assertIn(id(node), passed)

    def test_inner_comprehensions_have_names_of_their_own(self):
        kinds = (ast.ListComp, ast.DictComp, ast.SetComp)
        for _, tree in self.each():
            for function in [node for node in ast.walk(tree) if isinstance(node, ast.FunctionDef)]:
                for outer in [node for node in ast.walk(function) if isinstance(node, kinds)]:
                    for inner in [node for node in ast.walk(outer) if isinstance(node, kinds) and node is not outer]:
                        targets = {name for part in inner.generators for name in bound(part.target)}
                        inside = [id(node) for node in ast.walk(inner)]
                        others = {name for node in ast.walk(function) if id(node) not in inside
                                  and isinstance(node, (ast.Name, ast.arg)) for name in bound(node)}
                        self.assertEqual(targets & others, set(), function.name)

    def test_imports_go_one_way(self):
        found = {}
        for path in FILES:
            tree = ast.parse(path.read_text(encoding="utf-8"))
            found[path.stem] = {node.module.split(".")[1] for node in tree.body if isinstance(node, ast.ImportFrom)}
        while found:
            free = [name for name in found if not found[name] & set(found)]
            self.assertTrue(free, found)
            for name in free:
                del found[name]

    def test_decorators(self):
        for _, tree in self.each():
            for node in ast.walk(tree):
                if isinstance(node, ast.FunctionDef):
                    self.assertIn([part.id for part in node.decorator_list], [[], ["property"]])
                    self.assertTrue(not node.decorator_list or len(node.args.args) == 1)

    def test_tries(self):
        for _, tree in self.each():
            for node in [node for node in ast.walk(tree) if isinstance(node, ast.Try)]:
                self.assertEqual(node.handlers, [])
                for part in [part for row in node.finalbody for part in ast.walk(row)]:
                    self.assertIsInstance(part, (ast.Assign, ast.Tuple, ast.Attribute, ast.Name, ast.expr_context))

    def test_methods_are_no_attributes(self):
        methods, attributes = set(), set()
        for _, tree in self.each():
            for node in ast.walk(tree):
                if isinstance(node, ast.ClassDef):
                    methods.update(row.name for row in node.body if isinstance(row, ast.FunctionDef))
                if isinstance(node, ast.Attribute) and isinstance(node.ctx, ast.Store):
                    attributes.add(node.attr)
        self.assertEqual(methods & attributes, set())

    def test_strings(self):
        for _, tree in self.each():
            for node in ast.walk(tree):
                if isinstance(node, ast.Constant) and isinstance(node.value, str):
                    self.assertNotIn("%", node.value)


if __name__ == "__main__":
    unittest.main()
