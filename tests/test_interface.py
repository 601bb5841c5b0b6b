"""The interface: its names, in the files that list them, with the parameters that the document gives them."""

import ast
import inspect
import unittest
from pathlib import Path

from lessways import bounds, mending, rows, shares, terms

PACKAGE = Path(__file__).resolve().parent.parent / "lessways"

# For each class: its file, the methods that have names (with their parameters), and its operators.
CLASSES = {
    "Share": ("shares", {"over": ("number",)},
              ("add", "radd", "sub", "rsub", "mul", "rmul", "neg", "abs", "lt", "le", "gt", "ge", "eq", "str")),
    "Term": ("terms", {"unknown": ("k",), "constant": ("number",), "over": ("number",), "at": ("point",)},
             ("add", "radd", "sub", "rsub", "mul", "rmul", "neg", "lt", "le", "gt", "ge", "eq")),
    "Row": ("rows", {"holds": ("point",)}, ("invert", "eq")),
}
# For each function of the interface: its file and its parameters.
FUNCTIONS = {
    "point_of": (mending, ("rows",)),
    "weights_of": (mending, ("rows",)),
    "least": (bounds, ("rows", "term")),
    "greatest": (bounds, ("rows", "term")),
    "endless": (bounds, ("rows", "term")),
}
STATIC = {("Term", "unknown"), ("Term", "constant")}


def body_of(name):
    """The names of the methods that stand in the body of a class itself."""
    tree = ast.parse((PACKAGE / f"{CLASSES[name][0]}.py").read_text())
    for node in tree.body:
        if isinstance(node, ast.ClassDef) and node.name == name:
            return {member.name for member in node.body if isinstance(member, ast.FunctionDef)}
    return set()


class InterfaceTest(unittest.TestCase):

    def class_of(self, name):
        return getattr({"shares": shares, "terms": terms, "rows": rows}[CLASSES[name][0]], name)

    def test_methods_stand_in_the_class_itself(self):
        for name, (_, methods, operators) in CLASSES.items():
            told = body_of(name)
            for method in [*methods, *[f"__{sign}__" for sign in operators]]:
                self.assertIn(method, told, name)

    def test_parameters(self):
        for name, (_, methods, _) in CLASSES.items():
            for method, parameters in methods.items():
                told = list(inspect.signature(getattr(self.class_of(name), method)).parameters)
                if (name, method) not in STATIC:
                    told = told[1:]
                self.assertEqual(tuple(told), parameters, (name, method))

    def test_functions(self):
        for name, (module, parameters) in FUNCTIONS.items():
            told = getattr(module, name)
            self.assertEqual(told.__module__, module.__name__)
            self.assertEqual(tuple(inspect.signature(told).parameters), parameters, name)

    def test_static_methods(self):
        for name, method in STATIC:
            self.assertIsInstance(vars(self.class_of(name))[method], staticmethod)

    def test_share_is_made_of_top_and_bottom(self):
        told = inspect.signature(shares.Share).parameters
        self.assertEqual(list(told), ["top", "bottom"])
        self.assertEqual(told["bottom"].default, 1)

    def test_attributes_are_set_on_each_object(self):
        term = 2 * terms.Term.unknown(1) + 3
        for thing, names in ((shares.Share(1, 2), ("top", "bottom")), (term, ("number", "times")),
                             (term > 0, ("term", "strict")), (~(term > 0), ("term", "strict"))):
            for name in names:
                self.assertIn(name, vars(thing))


if __name__ == "__main__":
    unittest.main()
