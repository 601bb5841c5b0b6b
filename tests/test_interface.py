"""The interface: its names, in the files that list them, with the parameters that the document gives them."""

import ast
import inspect
import unittest
from pathlib import Path

from lessways import asking, bounds, lands, mending, pieces, rows, shares, terms, trees

PACKAGE = Path(__file__).resolve().parent.parent / "lessways"

# For each class: its file, the methods that have names (with their parameters), and its operators.
CLASSES = {
    "Share": ("shares", {"over": ("number",)},
              ("add", "radd", "sub", "rsub", "mul", "rmul", "neg", "abs", "lt", "le", "gt", "ge", "eq", "str")),
    "Term": ("terms", {"unknown": ("k",), "constant": ("number",), "over": ("number",), "at": ("point",)},
             ("add", "radd", "sub", "rsub", "mul", "rmul", "neg", "lt", "le", "gt", "ge", "eq")),
    "Row": ("rows", {"holds": ("point",)}, ("invert", "eq")),
    "Asker": ("asking", {"tree": ("code",), "every": ("code",), "some": ("code",), "first": ("code",),
                         "parting": ("code", "other"), "span": ("code",), "way": ("code", "point"),
                         "room": ("code", "point", "k"), "needless": ("code",), "read": ("code",), "land": ("code",)},
              ()),
    "Pieces": ("pieces", {"of_term": ("unknowns", "term"), "__call__": ("point",), "parted": ("q",), "below": ("q",),
                          "level": ("q",), "where": ("land", "q"), "span": (), "endless": (), "one_term": (),
                          "leans": ("k",), "falls": ("k",), "put": ("parts",), "bends": (), "jumps": (), "twice": ()},
               ("add", "radd", "sub", "rsub", "mul", "rmul", "and", "rand", "or", "ror", "abs", "lt", "le", "gt", "ge",
                "eq", "neg")),
    "Land": ("lands", {"of_rows": ("unknowns", "rows"), "one_point": (), "is_all": (), "span": ("term",), "away": ()},
             ("contains", "and", "or", "sub", "xor", "invert", "lt", "le", "gt", "ge", "eq")),
}
MODULES = {"asking": asking, "lands": lands, "pieces": pieces, "rows": rows, "shares": shares, "terms": terms}
# For each function of the interface: its file and its parameters.
FUNCTIONS = {
    "point_of": (mending, ("rows",)),
    "weights_of": (mending, ("rows",)),
    "least": (bounds, ("rows", "term")),
    "greatest": (bounds, ("rows", "term")),
    "endless": (bounds, ("rows", "term")),
    "called": (asking, ("code", "point", "unknowns")),
    "leaves": (trees, ("tree",)),
    "depth": (trees, ("tree",)),
    "walk": (trees, ("tree", "point")),
    "pruned": (trees, ("tree",)),
    "asked": (trees, ("tree", "unknowns")),
}
STATIC = {("Term", "unknown"), ("Term", "constant"), ("Pieces", "of_term"), ("Land", "of_rows")}


def body_of(name):
    """The names of the methods that stand in the body of a class itself."""
    tree = ast.parse((PACKAGE / f"{CLASSES[name][0]}.py").read_text())
    for node in tree.body:
        if isinstance(node, ast.ClassDef) and node.name == name:
            return {member.name for member in node.body if isinstance(member, ast.FunctionDef)}
    return set()


class InterfaceTest(unittest.TestCase):

    def class_of(self, name):
        return getattr(MODULES[CLASSES[name][0]], name)

    def test_methods_stand_in_the_class_itself(self):
        for name, (_, methods, operators) in CLASSES.items():
            told = body_of(name)
            for method in [*methods, *[f"__{sign}__" for sign in operators]]:
                self.assertIn(method, told, name)

    def test_parameters(self):
        for name, (_, methods, _) in CLASSES.items():
            for method, parameters in methods.items():
                told = list(inspect.signature(getattr(self.class_of(name), method)).parameters)
                if (name, method) not in STATIC:
                    told = told[1:]
                self.assertEqual(tuple(told), parameters, (name, method))

    def test_functions(self):
        for name, (module, parameters) in FUNCTIONS.items():
            told = getattr(module, name)
            self.assertEqual(told.__module__, module.__name__)
            self.assertEqual(tuple(inspect.signature(told).parameters), parameters, name)

    def test_static_methods(self):
        for name, method in STATIC:
            self.assertIsInstance(vars(self.class_of(name))[method], staticmethod)

    def test_share_is_made_of_top_and_bottom(self):
        told = inspect.signature(shares.Share).parameters
        self.assertEqual(list(told), ["top", "bottom"])
        self.assertEqual(told["bottom"].default, 1)

    def test_asker_is_made_with_limits_by_name(self):
        told = inspect.signature(asking.Asker).parameters
        self.assertEqual(list(told), ["unknowns", "given", "deepest", "most"])
        self.assertEqual([told[name].kind for name in ("given", "deepest", "most")], [inspect.Parameter.KEYWORD_ONLY] * 3)
        self.assertEqual([told[name].default for name in ("given", "deepest", "most")], [(), 8, 400])

    def test_attributes_are_set_on_each_object(self):
        term = 2 * terms.Term.unknown(1) + 3
        asker = asking.Asker(2)
        land = asker.land(lambda ask, x: ask(x[0] > 0))
        self.assertEqual(land.unknowns, 2)
        self.assertEqual((~land | land).unknowns, 2)
        told = asker.read(lambda ask, x: x[0])
        self.assertEqual([one.unknowns for one in (told, told + 1, told & told, abs(told), told.put([1, 2]))], [2] * 5)
        for thing, names in ((shares.Share(1, 2), ("top", "bottom")), (term, ("number", "times")),
                             (term > 0, ("term", "strict")), (~(term > 0), ("term", "strict")),
                             (asker, ("unknowns", "deepest", "most", "calls", "asks")), (land, ("unknowns",)),
                             (told, ("unknowns",))):
            for name in names:
                self.assertIn(name, vars(thing))


if __name__ == "__main__":
    unittest.main()
