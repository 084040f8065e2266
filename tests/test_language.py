"""The form of the package: those rules of LANGUAGE.md that a test can see, mostly somewhat more narrowly."""

import ast
import builtins
import inspect
import pathlib
import re
import unittest

import kindweft.book
import kindweft.built
import kindweft.desk
import kindweft.drawn
import kindweft.lead
import kindweft.look
import kindweft.made
import kindweft.pages
import kindweft.search
import kindweft.tables
import kindweft.texts

FOLDER = pathlib.Path(__file__).resolve().parent.parent / "kindweft"
ALLOWED_BUILTINS = set(
    "len range enumerate zip min max sum abs sorted reversed int str bool bytes list tuple dict set frozenset "
    "isinstance ord repr any all divmod Exception ValueError TypeError KeyError IndexError LookupError "
    "ZeroDivisionError ArithmeticError OverflowError RuntimeError NotImplementedError AttributeError iter next".split()
)
ALLOWED_METHODS = set(
    "append clear copy count endswith extend find get index insert isalnum isalpha isdigit islower isspace isupper "
    "items join keys ljust lower lstrip partition pop remove replace reverse rfind rjust rpartition rsplit rstrip "
    "setdefault split splitlines startswith strip update upper values zfill bit_length add discard".split()
)
DOUBLE = set("__init__ __eq__ __repr__ __str__ __len__ __enter__ __exit__ __call__ __iter__".split())
NEVER_NAMES = set(
    "register mro elements open input law version_info with_traceback add_note attrgetter breakpoint builtins compile "
    "copyright credits delattr dir eval exec exit gc getattr globals hasattr help id importlib license locals "
    "methodcaller os quit setattr super type vars sys chr print".split()
)
NEVER_WORDS = re.compile(
    r"\b(type|typing|typing_extensions|enum|Enum|IntEnum|StrEnum|Flag|IntFlag|Generic|Protocol|ABC|ABCMeta|namedtuple"
    r"|NamedTuple|TypedDict|TYPE_CHECKING|abstractmethod)\b|dataclass|overload|contextmanager"
)
NEVER_NODES = (
    ast.Global, ast.AsyncFunctionDef, ast.AsyncFor, ast.AsyncWith, ast.Await, ast.GeneratorExp, ast.Div, ast.MatMult,
    ast.Import,
)
LIST_TAKERS = ("any", "all", "min", "max", "sum", "sorted")


def sources():
    return {path.stem: path.read_text(encoding="utf-8") for path in sorted(FOLDER.glob("*.py"))}


def trees():
    return {name: ast.parse(text) for name, text in sources().items()}


def nodes(tree, *kinds):
    return [node for node in ast.walk(tree) if isinstance(node, kinds)]


def defined(tree):
    """The names of a module's own functions, classes and values."""
    names = [node.name for node in tree.body if isinstance(node, (ast.FunctionDef, ast.ClassDef))]
    return names + [node.targets[0].id for node in tree.body if isinstance(node, ast.Assign)]


def imported(tree):
    return [alias.name for node in tree.body if isinstance(node, ast.ImportFrom) for alias in node.names]


def bound(tree):
    """The names of parameters and local variables."""
    names = [node.arg for node in nodes(tree, ast.arg)]
    inner = [node for function in nodes(tree, ast.FunctionDef) for node in nodes(function, ast.Name)]
    return names + [node.id for node in inner if not isinstance(node.ctx, ast.Load)]


class Files(unittest.TestCase):
    def test_files_and_signs(self):
        for path in FOLDER.iterdir():
            if path.name != "__pycache__":
                self.assertRegex(path.name, r"^[a-z0-9_]+\.py$")
        for name, text in sources().items():
            self.assertIsNone(re.search(r"[^ -~\n]", text), name)

    def test_sizes(self):
        for name, text in sources().items():
            lines = text.split("\n")
            self.assertLessEqual(len(lines), 399, name)
            self.assertLessEqual(max(map(len, lines)), 120, name)
            for function in nodes(ast.parse(text), ast.FunctionDef):
                self.assertLessEqual(function.end_lineno - function.lineno + 1, 40, function.name)

    def test_words_and_signs_that_do_not_occur(self):
        for name, text in sources().items():
            self.assertIsNone(NEVER_WORDS.search(text), name)
            for node in nodes(ast.parse(text), ast.Constant):
                if isinstance(node.value, str):
                    self.assertNotIn("%", node.value, name)
                self.assertNotIsInstance(node.value, (float, complex), name)
            self.assertNotRegex(text, r"\\[^nt\\\"']")


class Imports(unittest.TestCase):
    def test_only_own_names_from_the_file_that_defines_them(self):
        known = trees()
        for name, tree in known.items():
            for node in nodes(tree, ast.ImportFrom):
                self.assertIn(node, tree.body)
                self.assertEqual(node.level, 0)
                package, module = node.module.split(".")
                self.assertEqual(package, "kindweft", name)
                for alias in node.names:
                    self.assertIn(alias.name, defined(known[module]), name)

    def test_no_round_of_imports(self):
        known = trees()
        needs = {
            name: {node.module.split(".")[1] for node in nodes(tree, ast.ImportFrom)} for name, tree in known.items()
        }
        self.assertEqual(needs["__init__"], set())
        while needs:
            free = [name for name in needs if not needs[name]]
            self.assertTrue(free, needs)
            needs = {name: needs[name] - set(free) for name in needs if name not in free}


class Statements(unittest.TestCase):
    def test_module_level(self):
        for name, tree in trees().items():
            for at, node in enumerate(tree.body):
                text = at == 0 and isinstance(node, ast.Expr) and isinstance(node.value, ast.Constant)
                plain = isinstance(node, ast.Assign) and [isinstance(one, ast.Name) for one in node.targets] == [True]
                self.assertTrue(text or plain or isinstance(node, (ast.ImportFrom, ast.FunctionDef, ast.ClassDef)))
                if plain:
                    self.assertEqual(nodes(node.value, ast.Call, ast.ListComp, ast.DictComp, ast.SetComp), [], name)

    def test_no_other_statements_and_expressions(self):
        for name, tree in trees().items():
            self.assertEqual([type(node).__name__ for node in nodes(tree, *NEVER_NODES)], [], name)
            for node in nodes(tree, ast.FunctionDef, ast.ClassDef):
                self.assertEqual(node.decorator_list, [], name)
            for node in nodes(tree, ast.Compare):
                for sign, right in zip(node.ops, node.comparators):
                    if isinstance(sign, (ast.Is, ast.IsNot)):
                        self.assertIn(getattr(right, "value", 0), (None, True, False), name)
            for node in nodes(tree, ast.BinOp):
                if isinstance(node.op, ast.Pow):
                    self.assertIsInstance(node.right, ast.Constant, name)

    def test_own_errors_by_their_names(self):
        known = trees()
        own = [node.name for node in known["errors"].body if isinstance(node, ast.ClassDef)]
        for name, tree in known.items():
            for node in nodes(tree, ast.Raise):
                self.assertIsInstance(node.exc, ast.Call, name)
                self.assertIn(node.exc.func.id, own, name)
                self.assertTrue(node.cause is None or node.cause.value is None, name)
            for node in nodes(tree, ast.ExceptHandler):
                caught = node.type.elts if isinstance(node.type, ast.Tuple) else [node.type]
                self.assertEqual([error.id for error in caught if error.id not in own], [], name)

    def test_any_and_its_like_take_lists(self):
        # Own calls may be iterated lists; what counts is that nothing is computed while it is taken.
        for name, tree in trees().items():
            for node in nodes(tree, ast.Call):
                if isinstance(node.func, ast.Name) and node.func.id in LIST_TAKERS:
                    self.assertNotIsInstance(node.args[0], ast.GeneratorExp, name)


class Names(unittest.TestCase):
    def test_plain_and_allowed(self):
        every = set(dir(builtins))
        for name, tree in trees().items():
            for node in nodes(tree, ast.Name):
                self.assertRegex(node.id, r"^[A-Za-z][A-Za-z0-9_]*$", name)
                self.assertNotIn(node.id, NEVER_NAMES, name)
                if node.id in every:
                    self.assertIn(node.id, ALLOWED_BUILTINS, name)
                    self.assertIsInstance(node.ctx, ast.Load, name)

    def test_bound_once(self):
        every = set(dir(builtins))
        for name, tree in trees().items():
            tops = defined(tree) + imported(tree)
            self.assertEqual(len(tops), len(set(tops)), name)
            classes = [node.name for node in nodes(tree, ast.ClassDef)]
            taken = set(classes + imported(tree)) | every | NEVER_NAMES
            self.assertEqual(set(bound(tree)) & taken, set(), name)
            self.assertEqual(set(defined(tree)) & every, set(), name)

    def test_methods_and_attributes(self):
        methods, attributes, read = set(), set(), set()
        for tree in trees().values():
            for node in nodes(tree, ast.ClassDef):
                methods |= {inner.name for inner in node.body if isinstance(inner, ast.FunctionDef)}
            for node in nodes(tree, ast.Attribute):
                (attributes if isinstance(node.ctx, ast.Store) else read).add(node.attr)
        self.assertEqual(methods & attributes, set())
        self.assertEqual({name for name in methods if name.startswith("_")} - DOUBLE, set())
        self.assertEqual(read - methods - attributes - ALLOWED_METHODS, set())
        self.assertEqual((methods | attributes) & NEVER_NAMES, set())


INTERFACE = {
    kindweft.tables: {"fault": "(names, same, backs, steps)"},
    kindweft.texts: {"read_table": "(text)"},
    kindweft.built: {"built": "(word)", "read_off": "(word, one, other)"},
    kindweft.drawn: {"drawn": "(word, things, standing)"},
    kindweft.made: {
        "paired": "(one, other, *, names=None)", "turned": "(table)", "renamed": "(table, names)",
        "coarser": "(table, blocks, names)",
    },
    kindweft.look: {"led": "(book, steps)", "bars": "(book, tree)", "fits": "(book, standing)"},
    kindweft.search: {
        "standing": "(book, *, most=3000)", "follows": "(book, one, other, kinds, *, most=3000)",
        "least": "(book, one, other, *, most=3000)", "count": "(book, *, most=3000)",
        "nth": "(book, at, *, most=3000)", "lot": "(book, *, most=3000)",
    },
    kindweft.lead: {
        "paired_book": "(one, other, table)", "turned_book": "(book)", "coarser_book": "(book, table, blocks)",
        "joined": "(one, other)",
    },
    kindweft.pages: {"page": "(book)", "read_page": "(text)"},
}
TABLE = {
    "__init__": "(self, names, same, backs, steps)", "kinds": "(self)", "back": "(self, kind)",
    "step": "(self, one, other)", "steps": "(self, ones, others)", "backs": "(self, ones)",
    "ordered": "(self, kinds)", "__len__": "(self)", "__eq__": "(self, other)", "__repr__": "(self)",
    "__str__": "(self)",
}
BOOK = {
    "__init__": "(self, table)", "thing": "(self, name)", "drop": "(self, name)", "say": "(self, one, other, kinds)",
    "strike": "(self, number)", "say_all": "(self, sayings)", "undo": "(self)", "redo": "(self)", "table": "(self)",
    "things": "(self)", "sayings": "(self)", "closed": "(self, one, other)", "why": "(self, one, other)",
    "torn": "(self)", "coming": "(self)", "twin": "(self)", "__len__": "(self)",
}
DESK = {"__init__": "(self, table)", "say": "(self, line)", "book": "(self)"}


class Interface(unittest.TestCase):
    def test_functions_and_their_arguments(self):
        for module, functions in INTERFACE.items():
            for name, arguments in functions.items():
                function = getattr(module, name)
                self.assertEqual(function.__module__, module.__name__)
                self.assertEqual(str(inspect.signature(function)), arguments)

    def test_methods(self):
        for holder, module, methods in (
            (kindweft.tables.Table, "kindweft.tables", TABLE), (kindweft.book.Book, "kindweft.book", BOOK),
            (kindweft.desk.Desk, "kindweft.desk", DESK),
        ):
            self.assertEqual(holder.__module__, module)
            for name, arguments in methods.items():
                self.assertIn(name, vars(holder))
                self.assertEqual(str(inspect.signature(vars(holder)[name])), arguments)


if __name__ == "__main__":
    unittest.main()
