"""Points 22, 32 and 33: ask trees, told by askers or put together by callers."""

import random
import unittest
from fractions import Fraction

from lessways.asking import Asker, called
from lessways.shares import Share
from lessways.terms import Term
from lessways.trees import asked, depth, leaves, pruned, walk
from tests.codes import any_form, form_of, holds
from tests.faces import faces_of

X, Y, Z = [Term.unknown(k) for k in range(3)]


def leaf(value):
    return ("leaf", value)


def any_row(chance, unknowns, size=4):
    form = any_form(chance, unknowns, size)
    term = form[0] + form[1] * X + form[2] * Y + form[3] * Z
    return term > 0 if chance.random() < 0.5 else term >= 0


def any_tree(chance, unknowns, deep, value):
    """A tree of any rows, forced ones and such that come up again among them."""
    if deep == 0 or chance.random() < 0.15:
        return leaf(value(chance))
    return ("ask", any_row(chance, unknowns), any_tree(chance, unknowns, deep - 1, value),
            any_tree(chance, unknowns, deep - 1, value))


def chain(deep):
    """A tree with so many asks on its longest path."""
    tree = leaf("end")
    for k in range(deep):
        tree = ("ask", X > k, leaf(k), tree) if k % 2 else ("ask", X > k, tree, leaf(k))
    return tree


def rows_of(tree):
    return [] if tree[0] == "leaf" else [tree[1], *rows_of(tree[2]), *rows_of(tree[3])]


def plain_walk(tree, point):
    """The value of the leaf at a point of fractions, by the test's own reckoning."""
    while tree[0] == "ask":
        tree = tree[3] if holds(tree[1], point) else tree[2]
    return tree[1]


def shares(point):
    return tuple(Share(one.numerator, one.denominator) for one in point)


class TreeTest(unittest.TestCase):

    def test_of_a_code(self):
        value = [1]

        def code(ask, x):
            if ask(x[0] > 0):
                return "yes" if ask(2 * x[0] >= x[1]) else X
            ask(x[0] > 1)
            return value

        tree = Asker(2).tree(code)
        self.assertEqual(tree, ("ask", X > 0, leaf([1]), ("ask", 2 * X >= Y, leaf(X), leaf("yes"))))
        self.assertIs(tree[2][1], value)
        self.assertTrue(all(type(part) is tuple for part in (tree, tree[2], tree[3], tree[3][2])))
        self.assertEqual(Asker(2).tree(lambda ask, x: None), leaf(None))
        self.assertEqual(Asker(1).tree(lambda ask, x: ask(x[0] > x[0])), leaf(False))

    def test_each_run_has_its_own_value(self):
        told = []

        def code(ask, x):
            ask(x[0] > 0)
            told.append(object())
            return told[-1]

        tree = Asker(1).tree(code)
        self.assertIs(tree[2][1], told[0])
        self.assertIs(tree[3][1], told[1])


class LeavesTest(unittest.TestCase):

    def test_false_ahead_of_true(self):
        tree = ("ask", X > 0, ("ask", Y > 0, leaf(1), leaf(2)), ("ask", Z > 0, leaf([3]), leaf(None)))
        self.assertEqual(leaves(tree), [(((X > 0, False), (Y > 0, False)), 1), (((X > 0, False), (Y > 0, True)), 2),
                                        (((X > 0, True), (Z > 0, False)), [3]), (((X > 0, True), (Z > 0, True)), None)])
        self.assertIs(leaves(tree)[2][1], tree[3][2][1])

    def test_kinds(self):
        told = leaves(tree=("ask", X > 0, leaf(1), leaf(2)))
        self.assertIs(type(told), list)
        self.assertTrue(all(type(pair) is tuple and type(pair[0]) is tuple for pair in told))
        self.assertEqual(leaves(leaf("alone")), [((), "alone")])

    def test_a_told_list_is_a_new_one(self):
        tree = ("ask", X > 0, leaf(1), leaf(2))
        leaves(tree).clear()
        self.assertEqual(len(leaves(tree)), 2)

    def test_forced_rows_stand_as_they_are(self):
        tree = ("ask", X > X, leaf(1), ("ask", X > 0, leaf(2), ("ask", X > 0, leaf(3), leaf(4))))
        self.assertEqual([len(path) for path, _ in leaves(tree)], [1, 2, 3, 3])
        self.assertEqual(depth(tree), 3)

    def test_forty_asks_on_a_path(self):
        told = leaves(chain(40))
        self.assertEqual(len(told), 41)
        self.assertEqual(max(len(path) for path, _ in told), 40)
        self.assertEqual(depth(chain(40)), 40)

    def test_depth(self):
        self.assertEqual(depth(leaf(1)), 0)
        self.assertEqual(depth(("ask", X > 0, leaf(1), leaf(1))), 1)
        self.assertEqual(depth(tree=("ask", X > 0, leaf(1), ("ask", X > 0, leaf(1), leaf(1)))), 2)
        self.assertEqual(depth(("ask", X > 0, ("ask", X > 0, leaf(1), leaf(1)), leaf(1))), 2)


class WalkTest(unittest.TestCase):

    def test_on_all_faces(self):
        chance = random.Random(1)
        for unknowns in (1, 1, 2, 2, 3):
            tree = any_tree(chance, unknowns, 5 - unknowns, lambda told: told.randint(0, 99))
            for point in faces_of([form_of(row) for row in rows_of(tree)], unknowns):
                self.assertEqual(walk(tree, shares(point)), plain_walk(tree, point))

    def test_the_leaf_as_it_stands(self):
        tree = ("ask", X > 2, leaf([1]), leaf(2 * X))
        self.assertIs(walk(tree, ()), tree[2][1])
        self.assertIs(walk(tree, [3]), tree[3][1])
        self.assertIs(walk(tree=tree, point=(Share(2),)), tree[2][1])

    def test_points_that_give_few_or_many(self):
        tree = ("ask", Y >= 0, leaf("no"), ("ask", Z > 0, leaf("level"), leaf("high")))
        self.assertEqual([walk(tree, point) for point in ((), [5], (1, -1), [0, 0, 1])],
                         ["level", "level", "no", "high"])

    def test_a_long_path(self):
        for worth in (-3, 0, Share(1, 2), 7, 39, 100):
            self.assertEqual(walk(chain(40), (worth,)), plain_walk(chain(40), (Fraction(str(Share(1) * worth)),)))


class PrunedTest(unittest.TestCase):

    def test_equal_sides(self):
        self.assertEqual(pruned(("ask", X > 0, leaf(1), leaf(1))), leaf(1))
        self.assertEqual(pruned(leaf(2)), leaf(2))
        tree = ("ask", X > 0, leaf(1), leaf(2))
        self.assertEqual(pruned(tree), tree)
        self.assertEqual(pruned(("ask", X > 1, tree, ("ask", 2 * X > 0, leaf(1), leaf(2)))), tree)
        self.assertEqual(pruned(tree=("ask", X > 1, tree, ("ask", X >= 0, leaf(1), leaf(2)))),
                         ("ask", X > 1, tree, ("ask", X >= 0, leaf(1), leaf(2))))

    def test_from_the_leaves_up(self):
        inner = ("ask", Y > 0, ("ask", Z > 0, leaf("a"), leaf("a")), leaf("a"))
        self.assertEqual(pruned(("ask", X > 0, inner, leaf("a"))), leaf("a"))
        self.assertEqual(pruned(("ask", X > 0, inner, leaf("b"))), ("ask", X > 0, leaf("a"), leaf("b")))
        self.assertEqual(pruned(("ask", X > 0, leaf("b"), inner)), ("ask", X > 0, leaf("b"), leaf("a")))

    def test_the_side_behind_false_stays(self):
        for no, yes in ((1, True), (True, 1), (0, False), (False, 0), ([1], [True]), (1, 1.0)):
            told = pruned(("ask", X > 0, leaf(no), leaf(yes)))
            self.assertEqual(told[0], "leaf")
            self.assertIs(told[1], no)
        told = pruned(("ask", X > 0, ("ask", Y > 0, leaf(0), leaf(False)), ("ask", Y > 0, leaf(False), leaf(0))))
        self.assertIs(type(told[1]), int)

    def test_values_that_are_not_equal_stay(self):
        for no, yes in ((1, 2), (True, False), (X, 2 * X), ([1], (1,)), (None, False), ("1", 1)):
            tree = ("ask", X > 0, leaf(no), leaf(yes))
            self.assertEqual(pruned(tree), tree)

    def test_terms_and_shares(self):
        self.assertEqual(pruned(("ask", X > 0, leaf(X + 1), leaf(1 + X))), leaf(X + 1))
        self.assertEqual(pruned(("ask", X > 0, leaf(Share(2, 4)), leaf(Share(1, 2)))), leaf(Share(1, 2)))

    def test_forced_asks_are_not_looked_at(self):
        tree = ("ask", X > X, leaf(1), leaf(2))
        self.assertEqual(pruned(tree), tree)

    def test_what_is_passed_stays(self):
        tree = ("ask", X > 0, ("ask", Y > 0, leaf([1]), leaf([1])), leaf([2]))
        told = pruned(tree)
        self.assertEqual(tree, ("ask", X > 0, ("ask", Y > 0, leaf([1]), leaf([1])), leaf([2])))
        self.assertEqual(told, ("ask", X > 0, leaf([1]), leaf([2])))

    def test_long_paths_and_the_same_values(self):
        tree = leaf(7)
        for k in range(40):
            tree = ("ask", X > k, leaf(7), tree) if k % 3 else ("ask", X > k, tree, leaf(7))
        self.assertEqual(pruned(tree), leaf(7))
        self.assertEqual(pruned(chain(40)), chain(40))
        chance = random.Random(2)
        for unknowns in (1, 2):
            for _ in range(10):
                tree = any_tree(chance, unknowns, 4, lambda told: told.randint(0, 1))
                small = pruned(tree)
                self.assertLessEqual(len(leaves(small)), len(leaves(tree)))
                for point in faces_of([form_of(row) for row in rows_of(tree)], unknowns):
                    self.assertEqual(walk(small, shares(point)), plain_walk(tree, point))


class AskedTest(unittest.TestCase):

    def test_with_terms(self):
        chance = random.Random(3)
        for unknowns in (1, 2, 2):
            tree = any_tree(chance, unknowns, 4, lambda told: told.randint(0, 5))
            code = asked(tree, unknowns)
            back = Asker(unknowns).tree(code)
            for point in faces_of([form_of(row) for row in rows_of(tree)], unknowns):
                self.assertEqual(walk(back, shares(point)), plain_walk(tree, point))
                self.assertEqual(called(code, shares(point), unknowns), plain_walk(tree, point))

    def test_leaves_at_x(self):
        value = [X]
        tree = ("ask", X > Y, leaf(2 * X - 1), ("ask", Y > 3, leaf(value), leaf(Share(1, 2))))
        code = asked(tree=tree, unknowns=2)
        self.assertEqual(Asker(2).tree(code), tree)
        self.assertEqual(called(code, (0, 0), 2), Share(-1))
        self.assertIs(called(code, (3, 2), 2), value)
        self.assertEqual(called(code, (5, 4), 2), Share(1, 2))
        self.assertIs(type(called(code, (0, 0), 2)), Share)

    def test_at_other_terms(self):
        tree = ("ask", X > Y, leaf(X + 2 * Y + 1), leaf(-X))
        code = asked(tree, 2)
        told = Asker(2).tree(lambda ask, x: code(ask, (x[1] + 1, 2 * x[0])))
        self.assertEqual(told, ("ask", Y + 1 > 2 * X, leaf(Y + 1 + 4 * X + 1), leaf(-Y - 1)))
        self.assertEqual(asked(tree, 2)(lambda truth: truth, (1, 5)), Share(12))

    def test_rows_that_are_forced_at_x(self):
        tree = ("ask", X > Y, leaf("no"), leaf("yes"))
        code = asked(tree, 2)
        self.assertEqual(Asker(1).tree(lambda ask, x: code(ask, (x[0], x[0]))), leaf("no"))
        self.assertEqual(Asker(1).tree(lambda ask, x: code(ask, (x[0] + 1, x[0]))), leaf("yes"))
        self.assertEqual(called(code, (2, 2), 2), "no")

    def test_more_unknowns_than_the_tree_has(self):
        tree = ("ask", X > 0, leaf(X), leaf(0))
        self.assertEqual(Asker(3).tree(asked(tree, 1)), tree)
        self.assertEqual(Asker(3).tree(asked(tree, 3)), tree)
        code = asked(("ask", Y > 0, leaf(1), leaf(2)), 2)
        self.assertEqual(called(code, (0, 1), 2), 2)

    def test_strictness_stays(self):
        for row in (X > 0, X >= 0, X < 1, X <= 1, 3 * X > 2, Term.constant(0) >= 0, Term.constant(0) > 0):
            tree = ("ask", row, leaf("no"), leaf("yes"))
            for worth in (0, 1, Share(2, 3), -1, 2):
                self.assertEqual(called(asked(tree, 1), (worth,), 1), walk(tree, (worth,)))

    def test_forty_asks_on_a_path(self):
        tree = chain(40)
        back = Asker(1, deepest=12).way(asked(tree, 1), (Share(7, 2),))
        self.assertLessEqual(len(back), 12)
        for worth in (-3, 0, Share(1, 2), 7, 39, 100):
            self.assertEqual(called(asked(tree, 1), (worth,), 1), walk(tree, (worth,)))


if __name__ == "__main__":
    unittest.main()
