"""The package keeps to those rules of ../shared/LANGUAGE.md that are plain to see in its text."""

import ast
import builtins
import pathlib
import re
import unittest

PACKAGE = pathlib.Path(__file__).resolve().parent.parent / "timegranary"

BUILTINS = set(
    "len range enumerate zip min max sum abs sorted reversed int str bool bytes list tuple dict set frozenset "
    "isinstance ord repr any all divmod iter next Exception ValueError TypeError KeyError IndexError LookupError "
    "ZeroDivisionError ArithmeticError OverflowError RuntimeError NotImplementedError AttributeError StopIteration "
    "NotImplemented property staticmethod classmethod super".split()
)
METHODS = set(
    "append clear copy count endswith extend find get index insert isalnum isalpha isdigit islower isspace isupper "
    "items join keys ljust lower lstrip partition pop remove replace reverse rfind rjust rpartition rsplit rstrip "
    "setdefault split splitlines startswith strip update upper values zfill bit_length title capitalize swapcase "
    "casefold center expandtabs removeprefix removesuffix rindex isascii isdecimal isnumeric istitle isidentifier "
    "isprintable translate __init__".split()
)
# The operators of L5 come in here when the package first has one: they bring rules of their own.
OWN_DOUBLES = set("__init__ __eq__ __repr__ __str__ __len__ __enter__ __exit__ __call__ __iter__".split())
BARRED_WORDS = re.compile(
    r"\b(type|typing|typing_extensions|enum|Enum|IntEnum|StrEnum|Flag|IntFlag|Generic|Protocol|ABC|ABCMeta|"
    r"namedtuple|NamedTuple|TypedDict|TYPE_CHECKING|abstractmethod)\b|dataclass|overload|contextmanager"
)
BARRED_NAMES = set(
    "register mro elements open input law version_info with_traceback add_note format format_map".split()
)
LISTS_ALONE = set("any all min max sum sorted".split())


def trees():
    for path in sorted(PACKAGE.glob("*.py")):
        yield path.name, ast.parse(path.read_text())


def nodes(kind):
    for name, tree in trees():
        for node in ast.walk(tree):
            if isinstance(node, kind):
                yield f"{name}:{getattr(node, 'lineno', 0)}", node


def own_methods():
    return {
        row.name for place, node in nodes(ast.ClassDef) for row in node.body if isinstance(row, ast.FunctionDef)
    }


class Language(unittest.TestCase):
    def test_files(self):
        names = [path.name for path in PACKAGE.iterdir() if path.name != "__pycache__"]
        self.assertIn("__init__.py", names)
        for name in names:
            self.assertRegex(name, r"\A[a-z_][a-z0-9_]*\.py\Z")

    def test_sizes_and_characters(self):
        for path in PACKAGE.glob("*.py"):
            text = path.read_bytes()
            self.assertEqual([sign for sign in text if not (32 <= sign <= 126 or sign == 10)], [], path.name)
            lines = text.decode("ascii").splitlines()
            self.assertLessEqual(len(lines), 399, path.name)
            self.assertEqual([line for line in lines if len(line) > 120], [], path.name)
        for place, node in nodes((ast.FunctionDef, ast.Lambda)):
            self.assertLessEqual(node.end_lineno - node.lineno + 1, 40, place)

    def test_barred_words(self):
        for path in PACKAGE.glob("*.py"):
            self.assertIsNone(BARRED_WORDS.search(path.read_text()), path.name)

    def test_imports(self):
        self.assertEqual([place for place, node in nodes(ast.Import)], [])
        for place, node in nodes(ast.ImportFrom):
            self.assertEqual((node.level, node.module.split(".")[0]), (0, "timegranary"), place)
            source = ast.parse((PACKAGE.parent / (node.module.replace(".", "/") + ".py")).read_text())
            defined = {row.name for row in source.body if isinstance(row, (ast.FunctionDef, ast.ClassDef))}
            defined |= {row.targets[0].id for row in source.body if isinstance(row, ast.Assign)}
            for alias in node.names:
                self.assertIn(alias.name, defined, place)

    def test_module_level(self):
        kinds = (ast.ImportFrom, ast.FunctionDef, ast.ClassDef, ast.Assign)
        for name, tree in trees():
            for row in tree.body[1:]:
                self.assertIsInstance(row, kinds, f"{name}:{row.lineno}")
            self.assertIsNotNone(ast.get_docstring(tree), name)

    def test_statements_and_expressions(self):
        barred = (
            ast.Global, ast.AsyncFunctionDef, ast.AsyncFor, ast.AsyncWith, ast.Await, ast.Div, ast.MatMult,
        )
        self.assertEqual([place for place, node in nodes(barred)], [])
        # Labels has an __eq__, so L7 wants a list here.
        for place, node in nodes(ast.Call):
            if isinstance(node.func, ast.Name) and node.func.id in LISTS_ALONE:
                self.assertNotIsInstance(node.args[0], ast.GeneratorExp, place)

    def test_strings_and_numbers(self):
        for place, node in nodes(ast.Constant):
            self.assertNotIsInstance(node.value, (float, complex), place)
            if isinstance(node.value, str):
                self.assertNotIn("%", node.value, place)

    def test_builtins(self):
        for place, node in nodes(ast.Name):
            if node.id in vars(builtins):
                self.assertIn(node.id, BUILTINS, place)
                self.assertIsInstance(node.ctx, ast.Load, place)

    def test_names(self):
        bound = [(place, node.id) for place, node in nodes(ast.Name)]
        bound += [(place, node.attr) for place, node in nodes(ast.Attribute)]
        bound += [(place, node.arg) for place, node in nodes(ast.arg)]
        bound += [(place, node.name) for place, node in nodes((ast.FunctionDef, ast.ClassDef))]
        for place, name in bound:
            self.assertNotIn(name, BARRED_NAMES, place)
            if name.startswith("_"):
                self.assertIn(name, OWN_DOUBLES, place)
        for place, node in nodes((ast.FunctionDef, ast.ClassDef, ast.arg)):
            name = node.arg if isinstance(node, ast.arg) else node.name
            self.assertNotIn(name, vars(builtins), place)

    def test_called_methods(self):
        allowed = METHODS | own_methods()
        for place, node in nodes(ast.Call):
            if isinstance(node.func, ast.Attribute):
                self.assertIn(node.func.attr, allowed, place)

    def test_no_name_is_both_a_method_and_an_attribute(self):
        assigned = {node.attr for place, node in nodes(ast.Attribute) if isinstance(node.ctx, ast.Store)}
        self.assertEqual(assigned & own_methods(), set())

    def test_is_stands_beside_none_and_truths_alone(self):
        for place, node in nodes(ast.Compare):
            for sign, other in zip(node.ops, node.comparators):
                if isinstance(sign, (ast.Is, ast.IsNot)):
                    self.assertIsInstance(other, ast.Constant, place)


if __name__ == "__main__":
    unittest.main()
