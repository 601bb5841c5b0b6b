"""The main rules of the Python subset that the files of the package are written in."""

import ast
import builtins
import re
import unittest
from pathlib import Path

PACKAGE = Path(__file__).resolve().parent.parent / "lessways"
BUILTINS = set("len range enumerate zip min max sum abs sorted reversed int str bool bytes list tuple dict set frozenset "
               "isinstance ord repr any all divmod iter next Exception ValueError TypeError KeyError IndexError "
               "LookupError ZeroDivisionError ArithmeticError OverflowError RuntimeError NotImplementedError "
               "AttributeError StopIteration NotImplemented super staticmethod classmethod property".split())
BARRED_WORDS = ("type typing typing_extensions enum Enum IntEnum StrEnum Flag IntFlag Generic Protocol ABC ABCMeta "
                "namedtuple NamedTuple TypedDict TYPE_CHECKING abstractmethod").split()
BARRED_NAMES = set("register mro elements open input law version_info with_traceback add_note attrgetter breakpoint "
                   "builtins compile copyright credits delattr dir eval exec exit gc getattr globals hasattr help id "
                   "importlib license locals methodcaller os quit setattr type vars sys".split())
STATEMENTS = (ast.Assign, ast.AugAssign, ast.AnnAssign, ast.If, ast.While, ast.For, ast.Return, ast.Break, ast.Continue,
              ast.Pass, ast.Raise, ast.Assert, ast.Delete, ast.Nonlocal, ast.Match, ast.With, ast.Try, ast.Expr,
              ast.FunctionDef, ast.ClassDef, ast.ImportFrom)
ORDER = ("sorted", "min", "max")


def sources():
    """The name, the text and the tree of each file of the package."""
    found = []
    for path in sorted(PACKAGE.glob("*.py")):
        text = path.read_text(encoding="utf-8")
        found.append((path.name, text, ast.parse(text)))
    return found


def nodes(kind):
    """All nodes of a kind, each with a place to tell."""
    return [(f"{name}:{node.lineno}", node) for name, _, tree in sources() for node in ast.walk(tree)
            if isinstance(node, kind)]


def bound_names(tree):
    """The names of functions, classes, parameters and variables of a file."""
    for node in ast.walk(tree):
        if isinstance(node, (ast.FunctionDef, ast.ClassDef)):
            yield node.name
        elif isinstance(node, ast.arg):
            yield node.arg
        elif isinstance(node, ast.Name) and isinstance(node.ctx, ast.Store):
            yield node.id


def called_name(node):
    """The name by which a call calls, or None if it is no bare name."""
    return node.func.id if isinstance(node.func, ast.Name) else None


def is_plain(node):
    """Whether an expression is plainly a number or a string, or a list of such."""
    if isinstance(node, ast.ListComp):
        return is_plain(node.elt)
    if isinstance(node, ast.List):
        return all(is_plain(member) for member in node.elts)
    if isinstance(node, ast.Call):
        return called_name(node) in ("len", "int", "ord", "str", "repr", "range")
    return isinstance(node, (ast.Constant, ast.JoinedStr))


class LanguageTest(unittest.TestCase):

    def test_files(self):
        found = [path.name for path in PACKAGE.iterdir() if path.name != "__pycache__"]
        self.assertIn("__init__.py", found)
        for name in found:
            self.assertRegex(name, r"^[a-z_][a-z0-9_]*\.py$")

    def test_lines_and_characters(self):
        for name, text, _ in sources():
            self.assertLessEqual(len(text.splitlines()), 399, name)
            self.assertIsNone(re.search(r"[^\n -~]", text), name)
            for at, line in enumerate(text.splitlines(), 1):
                self.assertLessEqual(len(line), 120, (name, at))

    def test_functions_are_short(self):
        for place, node in nodes(ast.FunctionDef):
            self.assertLessEqual(node.end_lineno - node.lineno + 1, 40, place)

    def test_barred_words(self):
        for name, text, _ in sources():
            for word in BARRED_WORDS:
                self.assertIsNone(re.search(rf"\b{word}\b", text), (name, word))
            self.assertIsNone(re.search(r"dataclass|overload|contextmanager", text), name)

    def test_names(self):
        for name, _, tree in sources():
            for told in bound_names(tree):
                if not (told.startswith("__") and told.endswith("__")):
                    self.assertNotRegex(told, r"^_", name)
                    self.assertNotIn(told, BARRED_NAMES, name)
                    self.assertNotIn(told, vars(builtins), name)

    def test_builtins(self):
        for place, node in nodes(ast.Name):
            if node.id in vars(builtins):
                self.assertIn(node.id, BUILTINS, place)

    def test_imports(self):
        defined = {name[:-3]: {node.name for node in tree.body if isinstance(node, (ast.FunctionDef, ast.ClassDef))}
                   | {target.id for node in tree.body if isinstance(node, ast.Assign) for target in node.targets}
                   for name, _, tree in sources()}
        for place, node in nodes((ast.Import, ast.ImportFrom)):
            self.assertIsInstance(node, ast.ImportFrom, place)
            self.assertEqual(node.col_offset, 0, place)
            self.assertRegex(node.module, r"^lessways\.[a-z]+$", place)
            for alias in node.names:
                self.assertIn(alias.name, defined[node.module.split(".")[1]], place)

    def test_no_two_files_import_from_each_other(self):
        imported = {name[:-3]: {node.module.split(".")[1] for node in tree.body if isinstance(node, ast.ImportFrom)}
                    for name, _, tree in sources()}
        while imported:
            free = [name for name, others in imported.items() if not others & set(imported)]
            self.assertTrue(free, imported)
            for name in free:
                del imported[name]

    def test_statements(self):
        for place, node in nodes(ast.stmt):
            self.assertIsInstance(node, STATEMENTS, place)

    def test_no_slash_no_float(self):
        for name, _, tree in sources():
            for node in ast.walk(tree):
                self.assertNotIsInstance(node, (ast.Div, ast.Await, ast.Yield), name)
                if isinstance(node, ast.Constant):
                    self.assertNotIsInstance(node.value, (float, complex), name)
                if isinstance(node, ast.Constant) and isinstance(node.value, str):
                    self.assertNotIn("%", node.value, name)

    def test_decorators(self):
        for place, node in nodes((ast.FunctionDef, ast.ClassDef)):
            for decorator in node.decorator_list:
                self.assertIsInstance(decorator, ast.Name, place)
                self.assertIn(decorator.id, ("staticmethod", "classmethod", "property"), place)

    def test_no_method_is_an_attribute(self):
        methods = {member.name for _, node in nodes(ast.ClassDef) for member in node.body
                   if isinstance(member, ast.FunctionDef)}
        attributes = {node.attr for _, node in nodes(ast.Attribute) if isinstance(node.ctx, ast.Store)}
        self.assertEqual(methods & attributes, set())

    def test_names_of_classes_and_imports_have_one_meaning(self):
        for name, _, tree in sources():
            taken = {node.name for node in tree.body if isinstance(node, ast.ClassDef)}
            for node in tree.body:
                if isinstance(node, ast.ImportFrom):
                    taken |= {alias.name for alias in node.names}
            for node in ast.walk(tree):
                if isinstance(node, ast.arg):
                    self.assertNotIn(node.arg, taken, (name, node.lineno))
                if isinstance(node, ast.Name) and isinstance(node.ctx, ast.Store):
                    self.assertNotIn(node.id, taken, (name, node.lineno))

    def test_order_is_asked_of_plain_things_only(self):
        for place, node in nodes(ast.Call):
            if called_name(node) in ORDER and not any(word.arg == "key" for word in node.keywords):
                self.assertTrue(any(is_plain(argument) for argument in node.args), place)

    def test_iterated_on_the_spot(self):
        for place, node in nodes(ast.Starred):
            if isinstance(node.value, ast.Call):
                self.assertNotIn(called_name(node.value), ("range", "zip", "enumerate", "reversed"), place)
        for place, node in nodes(ast.Assign):
            if isinstance(node.value, ast.Call):
                self.assertNotIn(called_name(node.value), ("range", "zip", "enumerate", "reversed"), place)

    def test_identity_is_asked_of_constants_only(self):
        for place, node in nodes(ast.Compare):
            for sign, right in zip(node.ops, node.comparators):
                if isinstance(sign, (ast.Is, ast.IsNot)):
                    self.assertIsInstance(right, ast.Constant, place)

    def test_errors_are_created_where_they_are_raised(self):
        for place, node in nodes(ast.Raise):
            if node.exc is not None:
                self.assertIsInstance(node.exc, ast.Call, place)
                self.assertIsInstance(node.exc.func, ast.Name, place)

    def test_no_sum_in_place_but_of_literal_integers(self):
        for place, node in nodes(ast.AugAssign):
            self.assertIsInstance(node.op, (ast.Add, ast.Sub, ast.FloorDiv), place)
            if isinstance(node.op, ast.Add):
                self.assertIsInstance(node.value, ast.Constant, place)


if __name__ == "__main__":
    unittest.main()
