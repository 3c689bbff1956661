"""The package keeps to the plain part of Python that LANGUAGE.md tells, as far as the code alone shows it."""

import ast
import builtins
import re
import tokenize
import unittest
from pathlib import Path

FOLDER = Path(__file__).resolve().parent.parent / "hatchwaits"

BUILTINS = set("""len range enumerate zip min max sum abs sorted reversed int str bool bytes list tuple dict set frozenset
    isinstance ord repr any all divmod Exception ValueError TypeError KeyError IndexError LookupError ZeroDivisionError
    ArithmeticError OverflowError RuntimeError NotImplementedError AttributeError StopIteration""".split())

METHODS = set("""append clear copy count endswith extend find get index insert isalnum isalpha isdigit islower isspace
    isupper items join keys ljust lower lstrip partition pop remove replace reverse rfind rjust rpartition rsplit rstrip
    setdefault split splitlines startswith strip update upper values zfill bit_length title capitalize swapcase casefold
    center expandtabs removeprefix removesuffix rindex isascii isdecimal isnumeric istitle isidentifier isprintable
    translate sort add discard encode decode hex fromhex to_bytes from_bytes maketrans __init__""".split())

BARRED_WORDS = set("""type typing typing_extensions enum Enum IntEnum StrEnum Flag IntFlag Generic Protocol ABC ABCMeta
    namedtuple NamedTuple TypedDict TYPE_CHECKING abstractmethod""".split())

BARRED_NAMES = set("""register mro elements open input version_info with_traceback add_note attrgetter breakpoint builtins
    compile copyright credits delattr dir eval exec exit gc getattr globals hasattr help id importlib license locals
    methodcaller os quit setattr super type vars sys chr format format_map""".split())

LAZY = ("zip", "enumerate", "reversed", "range")

BARRED_NODES = (
    ast.With, ast.Match, ast.Global, ast.Nonlocal, ast.Yield, ast.YieldFrom, ast.AsyncFunctionDef, ast.AsyncFor,
    ast.AsyncWith, ast.Await, ast.GeneratorExp, ast.NamedExpr, ast.Div, ast.MatMult, ast.Import,
)


def sources():
    return sorted(FOLDER.glob("**/*.py"))


def trees():
    return [(path.name, ast.parse(path.read_text(encoding="utf-8"))) for path in sources()]


def nodes(*kinds):
    """All nodes of these kinds in the package, each with the place where it stands."""
    for name, tree in trees():
        for node in ast.walk(tree):
            if isinstance(node, kinds):
                yield f"{name}:{getattr(node, 'lineno', 0)}", node


def bound_names(function):
    """The parameters and local variables of a function."""
    told = [argument.arg for argument in ast.walk(function.args) if isinstance(argument, ast.arg)]
    told += [node.id for node in ast.walk(function) if isinstance(node, ast.Name) and isinstance(node.ctx, ast.Store)]
    return told


class Files(unittest.TestCase):

    def test_the_folder_holds_sources_alone(self):
        self.assertTrue((FOLDER / "__init__.py").is_file())
        for path in FOLDER.iterdir():
            if path.name != "__pycache__":
                self.assertRegex(path.name, r"^(__init__|__main__|[a-z][a-z0-9_]*)\.py$")
        self.assertLessEqual(len(sources()), 100)

    def test_signs_and_lengths(self):
        for path in sources():
            text = path.read_text(encoding="utf-8")
            self.assertIsNone(re.search(r"[^\n -~]", text), path.name)
            lines = text.split("\n")
            self.assertLessEqual(len(lines), 401, path.name)
            self.assertLessEqual(max(map(len, lines)), 120, path.name)
        for place, node in nodes(ast.FunctionDef):
            self.assertLessEqual(node.end_lineno - node.lineno + 1, 40, place)

    def test_words_that_stand_nowhere(self):
        for path in sources():
            text = path.read_text(encoding="utf-8")
            self.assertEqual(set(), BARRED_WORDS & set(re.findall(r"\w+", text)), path.name)
            self.assertIsNone(re.search("dataclass|overload|contextmanager", text), path.name)

    def test_texts(self):
        for path in sources():
            with open(path, "rb") as source:
                for token in tokenize.tokenize(source.readline):
                    if token.type == tokenize.STRING:
                        self.assertNotIn("%", token.string, path.name)
                        self.assertIsNone(re.search(r"\\[^nt\\'\"]", token.string), path.name)


class Modules(unittest.TestCase):

    def test_imports_name_the_file_that_defines_the_name(self):
        defined = {}
        for name, tree in trees():
            defined["hatchwaits." + name[:-3]] = {
                target for node in tree.body for target in
                ([node.name] if isinstance(node, (ast.FunctionDef, ast.ClassDef)) else
                 [each.id for each in node.targets] if isinstance(node, ast.Assign) else [])}
        for place, node in nodes(ast.ImportFrom):
            self.assertEqual(0, node.level, place)
            if node.module != "__future__":
                for alias in node.names:
                    self.assertIn(alias.name, defined[node.module], place)

    def test_no_two_files_import_from_each_other(self):
        ahead = {name[:-3]: [node.module.split(".")[-1] for node in ast.walk(tree) if isinstance(node, ast.ImportFrom)]
                 for name, tree in trees()}
        free = set()
        while len(free) < len(ahead):
            more = {name for name, needed in ahead.items() if name not in free and free.issuperset(needed)}
            self.assertNotEqual(set(), more, "a ring of imports")
            free |= more

    def test_module_level(self):
        for name, tree in trees():
            bound = []
            for at, node in enumerate(tree.body):
                place = f"{name}:{node.lineno}"
                if isinstance(node, ast.Expr):
                    self.assertTrue(at == 0 and isinstance(node.value, ast.Constant), place)
                elif isinstance(node, ast.ImportFrom):
                    self.assertTrue(all(isinstance(each, (ast.Expr, ast.ImportFrom)) for each in tree.body[:at]), place)
                    bound += [alias.asname or alias.name for alias in node.names]
                elif isinstance(node, ast.Assign):
                    self.assertFalse([each for each in ast.walk(node.value)
                                      if isinstance(each, (ast.Call, ast.Set, ast.ListComp, ast.DictComp))], place)
                    bound += [target.id for target in node.targets]
                else:
                    self.assertIsInstance(node, (ast.FunctionDef, ast.ClassDef), place)
                    bound.append(node.name)
            self.assertEqual(len(bound), len(set(bound)), name)


class Code(unittest.TestCase):

    def test_nodes_that_are_not_let(self):
        self.assertEqual([], [place for place, node in nodes(*BARRED_NODES)])
        for place, node in nodes(ast.For, ast.While):
            self.assertEqual([], node.orelse, place)
        for place, node in nodes(ast.Constant):
            self.assertNotIsInstance(node.value, (float, complex), place)
        for place, node in nodes(ast.Starred):
            self.assertIsInstance(node.ctx, ast.Store, place)
        for place, node in nodes(ast.FormattedValue):
            self.assertIsNone(node.format_spec, place)
        for place, node in nodes(ast.BinOp):
            if isinstance(node.op, ast.Pow):
                self.assertIsInstance(node.right, ast.Constant, place)

    def test_functions(self):
        for place, node in nodes(ast.FunctionDef, ast.Lambda):
            self.assertEqual((None, None, []), (node.args.vararg, node.args.kwarg, node.args.posonlyargs), place)
        for place, node in nodes(ast.FunctionDef, ast.ClassDef):
            self.assertEqual([], node.decorator_list, place)

    def test_classes(self):
        for place, node in nodes(ast.ClassDef):
            self.assertLessEqual(len(node.bases), 1, place)
            for at, part in enumerate(node.body):
                docstring = at == 0 and isinstance(part, ast.Expr) and isinstance(part.value, ast.Constant)
                self.assertTrue(docstring or isinstance(part, (ast.FunctionDef, ast.Pass)), place)
                if isinstance(part, ast.FunctionDef) and part.name.startswith("__"):
                    self.assertIn(part.name, ("__init__", "__eq__", "__repr__", "__str__", "__len__"), place)

    def test_is_and_handlers(self):
        for place, node in nodes(ast.Compare):
            for operator, right in zip(node.ops, node.comparators):
                if isinstance(operator, (ast.Is, ast.IsNot)):
                    self.assertTrue(isinstance(right, ast.Constant) and right.value in (None, True, False), place)
        for place, node in nodes(ast.ExceptHandler):
            self.assertIsNotNone(node.type, place)
            self.assertFalse({each.id for each in ast.walk(node.type) if isinstance(each, ast.Name)}
                             & {"Exception", "TypeError"}, place)
        for place, node in nodes(ast.Raise):
            self.assertTrue(node.exc is None or isinstance(node.exc, ast.Call), place)

    def test_names(self):
        barred = set(dir(builtins))
        for name, tree in trees():
            outer = {node.name for node in tree.body if isinstance(node, ast.ClassDef)}
            outer |= {alias.name for node in tree.body if isinstance(node, ast.ImportFrom) for alias in node.names}
            for node in ast.walk(tree):
                if isinstance(node, (ast.FunctionDef, ast.Lambda)):
                    for bound in bound_names(node):
                        self.assertRegex(bound, r"^[A-Za-z][A-Za-z0-9_]*$", name)
                        self.assertNotIn(bound, outer | barred | BARRED_NAMES, f"{name}:{node.lineno}")
                if isinstance(node, ast.Name) and isinstance(node.ctx, ast.Load) and node.id in barred:
                    self.assertIn(node.id, BUILTINS, f"{name}:{node.lineno}")

    def test_attributes_and_methods(self):
        given = {node.attr for place, node in nodes(ast.Attribute) if isinstance(node.ctx, ast.Store)}
        methods = {part.name for place, node in nodes(ast.ClassDef) for part in node.body if hasattr(part, "name")}
        self.assertEqual(set(), given & methods)
        self.assertEqual(set(), (given | methods) & BARRED_NAMES)
        for place, node in nodes(ast.Attribute):
            if isinstance(node.ctx, ast.Load):
                self.assertIn(node.attr, given | methods | METHODS, place)

    def test_lazy_things_are_not_stored(self):
        for place, node in nodes(ast.Assign, ast.Return):
            if isinstance(node.value, ast.Call) and isinstance(node.value.func, ast.Name):
                self.assertNotIn(node.value.func.id, LAZY, place)


if __name__ == "__main__":
    unittest.main()
