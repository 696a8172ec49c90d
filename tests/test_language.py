"""The package keeps to those rules of ../shared/LANGUAGE.md that are plain to see in its text."""

import ast
import builtins
import pathlib
import re
import unittest

PACKAGE = pathlib.Path(__file__).resolve().parent.parent / "timegranary"

BUILTINS = set(
    "len range enumerate zip min max sum abs sorted reversed int str bool bytes list tuple dict set frozenset "
    "isinstance ord repr any all divmod iter next Exception ValueError TypeError KeyError IndexError LookupError "
    "ZeroDivisionError ArithmeticError OverflowError RuntimeError NotImplementedError AttributeError StopIteration "
    "NotImplemented property staticmethod classmethod super".split()
)
METHODS = set(
    "append clear copy count endswith extend find get index insert isalnum isalpha isdigit islower isspace isupper "
    "items join keys ljust lower lstrip partition pop remove replace reverse rfind rjust rpartition rsplit rstrip "
    "setdefault split splitlines startswith strip update upper values zfill bit_length title capitalize swapcase "
    "casefold center expandtabs removeprefix removesuffix rindex isascii isdecimal isnumeric istitle isidentifier "
    "isprintable translate __init__".split()
)
# The operators of L5 come in here when the package first has one: they bring rules of their own.
OWN_DOUBLES = set("__init__ __eq__ __repr__ __str__ __len__ __enter__ __exit__ __call__ __iter__".split())
BARRED_WORDS = re.compile(
    r"\b(type|typing|typing_extensions|enum|Enum|IntEnum|StrEnum|Flag|IntFlag|Generic|Protocol|ABC|ABCMeta|"
    r"namedtuple|NamedTuple|TypedDict|TYPE_CHECKING|abstractmethod)\b|dataclass|overload|contextmanager"
)
BARRED_NAMES = set(
    "register mro elements open input law version_info with_traceback add_note format format_map".split()
)
LISTS_ALONE = set("any all min max sum sorted".split())


def trees():
    for path in sorted(PACKAGE.glob("*.py")):
        yield path.name, ast.parse(path.read_text())


def nodes(kind):
    for name, tree in trees():
        for node in ast.walk(tree):
            if isinstance(node, kind):
                yield f"{name}:{getattr(node, 'lineno', 0)}", node


def own_methods():
    return {
        row.name for place, node in nodes(ast.ClassDef) for row in node.body if isinstance(row, ast.FunctionDef)
    }


class Language(unittest.TestCase):
    def test_files(self):
        names = [path.name for path in PACKAGE.iterdir() if path.name != "__pycache__"]
        self.assertIn("__init__.py", names)
        for name in names:
            self.assertRegex(name, r"\A[a-z_][a-z0-9_]*\.py\Z")

    def test_sizes_and_characters(self):
        for path in PACKAGE.glob("*.py"):
            text = path.read_bytes()
            self.assertEqual([sign for sign in text if not (32 <= sign <= 126 or sign == 10)], [], path.name)
            lines = text.decode("ascii").splitlines()
            self.assertLessEqual(len(lines), 399, path.name)
            self.assertEqual([line for line in lines if len(line) > 120], [], path.name)
        for place, node in nodes((ast.FunctionDef, ast.Lambda)):
            self.assertLessEqual(node.end_lineno - node.lineno + 1, 40, place)

    def test_barred_words(self):
        for path in PACKAGE.glob("*.py"):
            self.assertIsNone(BARRED_WORDS.search(path.read_text()), path.name)

    def test_imports(self):
        self.assertEqual([place for place, node in nodes(ast.Import)], [])
        for place, node in nodes(ast.ImportFrom):
            self.assertEqual((node.level, node.module.split(".")[0]), (0, "timegranary"), place)
            source = ast.parse((PACKAGE.parent / (node.module.replace(".", "/") + ".py")).read_text())
            defined = {row.name for row in source.body if isinstance(row, (ast.FunctionDef, ast.ClassDef))}
            defined |= {row.targets[0].id for row in source.body if isinstance(row, ast.Assign)}
            for alias in node.names:
                self.assertIn(alias.name, defined, place)

    def test_module_level(self):
        kinds = (ast.ImportFrom, ast.FunctionDef, ast.ClassDef, ast.Assign)
        for name, tree in trees():
            for row in tree.body[1:]:
                self.assertIsInstance(row, kinds, f"{name}:{row.lineno}")
            self.assertIsNotNone(ast.get_docstring(tree), name)

    def test_statements_and_expressions(self):
        barred = (
            ast.Global, ast.AsyncFunctionDef, ast.AsyncFor, ast.AsyncWith, ast.Await, ast.Div, ast.MatMult,
        )
        self.assertEqual([place for place, node in nodes(barred)], [])
        # Labels has an __eq__, so L7 wants a list here.
        for place, node in nodes(ast.Call):
            if isinstance(node.func, ast.Name) and node.func.id in LISTS_ALONE:
                self.assertNotIsInstance(node.args[0], ast.GeneratorExp, place)

    def test_strings_and_numbers(self):
        for place, node in nodes(ast.Constant):
            self.assertNotIsInstance(node.value, (float, complex), place)
            if isinstance(node.value, str):
                self.assertNotIn("%", node.value, place)

    def test_builtins(self):
        for place, node in nodes(ast.Name):
            if node.id in vars(builtins):
                self.assertIn(node.id, BUILTINS, place)
                self.assertIsInstance(node.ctx, ast.Load, place)

    def test_names(self):
        bound = [(place, node.id) for place, node in nodes(ast.Name)]
        bound += [(place, node.attr) for place, node in nodes(ast.Attribute)]
        bound += [(place, node.arg) for place, node in nodes(ast.arg)]
        bound += [(place, node.name) for place, node in nodes((ast.FunctionDef, ast.ClassDef))]
        for place, name in bound:
            self.assertNotIn(name, BARRED_NAMES, place)
            if name.startswith("_"):
                self.assertIn(name, OWN_DOUBLES, place)
        for place, node in nodes((ast.FunctionDef, ast.ClassDef, ast.arg)):
            name = node.arg if isinstance(node, ast.arg) else node.name
            self.assertNotIn(name, vars(builtins), place)

    def test_called_methods(self):
        allowed = METHODS | own_methods()
        for place, node in nodes(ast.Call):
            if isinstance(node.func, ast.Attribute):
                self.assertIn(node.func.attr, allowed, place)

    def test_no_name_is_both_a_method_and_an_attribute(self):
        assigned = {node.attr for place, node in nodes(ast.Attribute) if isinstance(node.ctx, ast.Store)}
        self.assertEqual(assigned & own_methods(), set())

    def test_is_stands_beside_none_and_truths_alone(self):
        for place, node in nodes(ast.Compare):
            for sign, other in zip(node.ops, node.comparators):
                if isinstance(sign, (ast.Is, ast.IsNot)):
                    self.assertIsInstance(other, ast.Constant, place)

    def test_no_local_name_is_that_of_a_class_or_an_import_of_its_file(self):
        for name, tree in trees():
            taken = {alias.name for row in tree.body if isinstance(row, ast.ImportFrom) for alias in row.names}
            taken |= {row.name for row in tree.body if isinstance(row, ast.ClassDef)}
            for node in ast.walk(tree):
                if isinstance(node, ast.arg):
                    self.assertNotIn(node.arg, taken, f"{name}:{node.lineno}")
                if isinstance(node, ast.Name) and isinstance(node.ctx, ast.Store):
                    self.assertNotIn(node.id, taken, f"{name}:{node.lineno}")

    def test_attributes_that_are_read_are_assigned(self):
        assigned = {node.attr for place, node in nodes(ast.Attribute) if isinstance(node.ctx, ast.Store)}
        allowed = assigned | own_methods() | METHODS
        for place, node in nodes(ast.Attribute):
            self.assertIn(node.attr, allowed, place)

    def test_no_imports_in_a_circle(self):
        imports = {
            f"timegranary.{name[:-3]}": [row.module for row in tree.body if isinstance(row, ast.ImportFrom)]
            for name, tree in trees()
        }
        done = []
        while len(done) < len(imports):
            ready = [name for name in imports if name not in done and set(imports[name]) <= set(done)]
            self.assertNotEqual(ready, [], "imports in a circle")
            done += ready

    def test_errors_are_own_ones_made_on_the_spot(self):
        own = {node.name for place, node in nodes(ast.ClassDef) if node.bases}
        for place, node in nodes(ast.ExceptHandler):
            for caught in node.type.elts if isinstance(node.type, ast.Tuple) else [node.type]:
                self.assertIn(caught.id, own, place)
        for place, node in nodes(ast.Raise):
            self.assertIn(node.exc.func.id, own, place)

    def test_a_finally_assigns_plain_values_alone(self):
        for place, node in nodes(ast.Try):
            for row in node.finalbody:
                self.assertIsInstance(row, ast.Assign, place)
                self.assertIsInstance(row.value, (ast.Constant, ast.Name, ast.Attribute), place)

    def test_sets_stand_in_sorted_and_len_alone(self):
        within = set()
        for place, node in nodes(ast.Call):
            if isinstance(node.func, ast.Name) and node.func.id in ("sorted", "len") and not node.keywords:
                within.add(ast.dump(node.args[0], include_attributes=True))
        for place, node in nodes((ast.SetComp, ast.Set)):
            self.assertIn(ast.dump(node, include_attributes=True), within, place)
        for place, node in nodes(ast.Call):
            if isinstance(node.func, ast.Name) and node.func.id in ("set", "frozenset"):
                self.assertIn(ast.dump(node, include_attributes=True), within, place)

    def test_double_underscore_methods(self):
        told = {
            "__len__": (ast.Call,), "__repr__": (ast.Constant, ast.JoinedStr, ast.Call),
            "__str__": (ast.Constant, ast.JoinedStr, ast.Call),
        }
        for place, node in nodes(ast.FunctionDef):
            returns = [row.value for row in ast.walk(node) if isinstance(row, ast.Return)]
            if node.name == "__init__":
                self.assertEqual(returns, [], place)
            if node.name == "__len__":
                self.assertEqual([value.func.id for value in returns], ["len"] * len(returns), place)
            if node.name in ("__eq__", *told):
                self.assertIsInstance(node.body[-1], ast.Return, place)
                self.assertEqual([row for row in ast.walk(node) if isinstance(row, (ast.Assign, ast.AugAssign))], [])
                for value in returns:
                    self.assertIsInstance(value, told.get(node.name, ast.AST), place)

    def test_a_star_in_a_call_stands_ahead_of_a_name_in_zip_alone(self):
        for place, node in nodes(ast.Call):
            for part in node.args:
                if isinstance(part, ast.Starred):
                    self.assertEqual((node.func.id, type(part.value)), ("zip", ast.Name), place)

    def test_tables_at_module_level_are_of_plain_values_and_own_functions(self):
        kinds = (
            ast.Constant, ast.Tuple, ast.List, ast.Dict, ast.Name, ast.Load, ast.UnaryOp, ast.USub,
        )
        for name, tree in trees():
            functions = {row.name for row in tree.body if isinstance(row, ast.FunctionDef)}
            for row in tree.body:
                for node in ast.walk(row.value) if isinstance(row, ast.Assign) else ():
                    self.assertIsInstance(node, kinds, f"{name}:{row.lineno}")
                    if isinstance(node, ast.Name):
                        self.assertIn(node.id, functions, f"{name}:{row.lineno}")
                    if isinstance(node, (ast.List, ast.Dict)):
                        self.assertIs(node, row.value, f"{name}:{row.lineno}")

    def test_a_table_of_functions_is_not_called_where_it_stands(self):
        for place, node in nodes(ast.Call):
            self.assertNotIsInstance(node.func, (ast.Subscript, ast.Call, ast.Constant), place)

    def test_loops_do_not_change_what_they_go_through(self):
        changing = set("append clear extend insert pop remove reverse setdefault update add discard sort".split())
        for place, node in nodes((ast.For, ast.comprehension)):
            if isinstance(node, ast.comprehension) or not isinstance(node.iter, (ast.Name, ast.Attribute)):
                continue
            looped = ast.unparse(node.iter)
            for row in node.body:
                for part in ast.walk(row):
                    if isinstance(part, ast.Call) and isinstance(part.func, ast.Attribute):
                        if part.func.attr in changing:
                            self.assertNotEqual(ast.unparse(part.func.value), looped, place)
                    if isinstance(part, ast.Subscript) and isinstance(part.ctx, (ast.Store, ast.Del)):
                        self.assertNotEqual(ast.unparse(part.value), looped, place)

    def test_default_values_are_plain(self):
        kinds = (ast.Constant, ast.Tuple, ast.UnaryOp, ast.Name)
        for place, node in nodes(ast.arguments):
            self.assertEqual((node.posonlyargs, node.vararg, node.kwarg), ([], None, None), place)
            for default in node.defaults + node.kw_defaults:
                if default is not None:
                    self.assertIsInstance(default, kinds, place)

    def test_no_f_string_over_two_lines_and_no_string_within_one(self):
        for place, node in nodes(ast.JoinedStr):
            self.assertEqual(node.lineno, node.end_lineno, place)
            for part in node.values:
                if isinstance(part, ast.FormattedValue):
                    inner = [row for row in ast.walk(part.value) if isinstance(row, ast.Constant)]
                    self.assertEqual([row for row in inner if isinstance(row.value, str)], [], place)

    def test_what_is_iterated_at_once_is_not_stored(self):
        for place, node in nodes(ast.Assign):
            if isinstance(node.value, ast.Call):
                called = node.value.func
                self.assertNotIn(getattr(called, "id", ""), ("zip", "enumerate", "reversed", "range"), place)
                self.assertNotIn(getattr(called, "attr", ""), ("items", "keys", "values"), place)


if __name__ == "__main__":
    unittest.main()
