"""Sections 13 and 14: what must agree, and the example."""

import unittest

from lessways.asking import Asker, called
from lessways.mending import weights_of
from lessways.shares import Share
from lessways.terms import Term
from lessways.trees import asked, leaves, pruned, walk
from tests.codes import any_plan, code_of, flat, form_leaf, holds, told_points, truth_leaf, value_at

X, Y, Z = [Term.unknown(k) for k in range(3)]
GIVEN = ([], [X > 0], [X >= 1, X <= 1], [X - Y >= 0, Y - X > -3], [X >= 0, Y >= 0, X + Y <= 2])


def shares(point):
    return tuple(Share(one.numerator, one.denominator) for one in point)


def at(value, point):
    """A value, a term being the number that it is at a point."""
    return value.at(point) if isinstance(value, Term) else value


class AgreeTest(unittest.TestCase):

    def plans(self, leaf):
        """(unknowns, given rows, plan) of many kinds."""
        for seed in range(30):
            unknowns = 1 + seed % 2
            yield unknowns, [] if unknowns == 1 else GIVEN[seed % len(GIVEN)], any_plan(seed, unknowns, 4, leaf, 3)
        for seed in range(4):
            yield 3, [], any_plan(seed, 3, 4, leaf, 2)

    def test_one_code_at_the_same_points(self):
        for leaf in (form_leaf, truth_leaf):
            for unknowns, given, plan in self.plans(leaf):
                asker = Asker(unknowns, given=given)
                code = code_of(plan)
                tree = asker.tree(code)
                back = [asked(tree, unknowns), asked(pruned(tree), unknowns)]
                for point in told_points(plan, unknowns, given):
                    self.check_point(asker, code, tree, back, plan, point)

    def check_point(self, asker, code, tree, back, plan, point):
        told = shares(point)
        unknowns = asker.unknowns
        path = asker.way(code, told)
        self.assertTrue(all(row.holds(told) is answer for row, answer in path))
        self.assertTrue(all(holds(row, point) is answer for row, answer in path))
        self.assertEqual(path, self.path_at(tree, told))
        wanted = value_at(plan, point)
        plain = wanted if isinstance(wanted, bool) else Share(wanted.numerator, wanted.denominator)
        self.assertEqual(called(code, told, unknowns), plain)
        self.assertEqual(at(walk(tree, told), told), plain)
        for again in back:
            self.assertEqual(called(again, told, unknowns), plain)
            self.assertLessEqual(len(asker.way(again, told)), len(path))

    def path_at(self, tree, point):
        """The path to a tree's leaf at a point."""
        path = []
        while tree[0] == "ask":
            path.append((tree[1], tree[1].holds(point)))
            tree = tree[3] if path[-1][1] else tree[2]
        return tuple(path)

    def test_pieces_and_lands_at_the_same_points(self):
        for leaf in (form_leaf, truth_leaf):
            for unknowns, given, plan in self.plans(leaf):
                if given:
                    continue
                asker = Asker(unknowns)
                told = asker.read(code_of(plan)) if leaf == form_leaf else asker.land(code_of(plan))
                for point in told_points(plan, unknowns):
                    number = told(shares(point)) if leaf == form_leaf else shares(point) in told
                    self.assertEqual(flat(number) if leaf == form_leaf else number, value_at(plan, point))

    def test_the_code_made_of_a_tree(self):
        for unknowns, given, plan in self.plans(form_leaf):
            asker = Asker(unknowns, given=given)
            code = code_of(plan)
            tree = asker.tree(code)
            self.assertEqual(asker.tree(asked(tree, unknowns)), tree)
            self.assertIsNone(asker.parting(asked(tree, unknowns), code))
            self.assertIsNone(asker.parting(code, asked(pruned(tree), unknowns)))
            if not given:
                self.assertIs(asker.read(asked(pruned(tree), unknowns)) == asker.read(code), True)

    def test_no_row_of_a_path_is_forced(self):
        for unknowns, given, plan in self.plans(form_leaf):
            asker = Asker(unknowns, given=given)
            for path, _ in leaves(asker.tree(code_of(plan))):
                rows = list(given)
                for row, answer in path:
                    self.assertIsNone(weights_of([*rows, row]))
                    self.assertIsNone(weights_of([*rows, ~row]))
                    rows.append(row if answer else ~row)

    def test_told_points_may_be_handed_in_again(self):
        great = 10 ** 12 - 1

        def code(ask, x):
            if ask(great * x[0] > x[1] * (great - 2) + 1):
                return ask(x[0] * great - great * x[1] < Share(1, great))
            return False

        asker = Asker(2)
        point = asker.first(code)
        self.assertIs(called(code, point, 2), True)
        path = asker.way(code, point)
        self.assertEqual([answer for _, answer in path], [True, True])
        low, high = asker.room(code, point, 0)
        self.assertEqual([end if end is None else type(end[0]) for end in (low, high)], [Share, Share])
        middle = (low[0] + high[0]).over(2)
        self.assertEqual(asker.way(code, [middle, point[1]]), path)
        self.assertIs(point in asker.land(code), True)

    def test_the_same_question_again(self):
        for unknowns, given, plan in self.plans(truth_leaf):
            asker = Asker(unknowns, given=given)
            code = code_of(plan)
            first = [asker.tree(code), asker.every(code), asker.some(code), asker.needless(code)]
            first[3].clear()
            again = [asker.tree(code), asker.every(code), asker.some(code), asker.needless(code)]
            self.assertEqual(again[:3], first[:3])
            self.assertEqual([one[:3] for one in again[3]], [one[:3] for one in asker.needless(code)])
            self.assertEqual(asker.first(code) is None, not first[2])


def clamp(ask, x):
    value, low, high = x
    if ask(value < low):
        return low
    if ask(value > high):
        return high
    if ask(low > high):
        return low - high
    return value


class ExampleTest(unittest.TestCase):

    def test_the_third_ask_is_never_recorded(self):
        tree = Asker(3).tree(clamp)
        self.assertEqual(tree, ("ask", X < Y, ("ask", X > Z, ("leaf", X), ("leaf", Z)), ("leaf", Y)))

    def test_it_is_needless(self):
        told = Asker(3).needless(clamp)
        self.assertEqual(len(told), 1)
        path, row, answer, weights = told[0]
        self.assertEqual(path, ((X < Y, False), (X > Z, False)))
        self.assertEqual(row, Y > Z)
        self.assertIs(answer, False)
        one, two, three = weights
        self.assertTrue(one == two == three > 0)

    def test_what_it_tells(self):
        for point, told in (((5, 1, 9), 5), ((0, 1, 9), 1), ((10, 1, 9), 9), ((5, 9, 1), 9), ((10, 9, 1), 1)):
            self.assertEqual(called(clamp, point, 3), told)
            self.assertEqual(Asker(3).read(clamp)(point), told)
        asker = Asker(3, given=[Y <= Z])
        self.assertIsNone(asker.parting(clamp, lambda ask, x: x[1] if ask(x[0] < x[1]) else
                                        x[2] if ask(x[2] < x[0]) else x[0]))
        self.assertIs(asker.every(lambda ask, x: ask(clamp(ask, x) >= x[1]) and ask(clamp(ask, x) <= x[2])), True)
        point = Asker(3).first(lambda ask, x: not ask(clamp(ask, x) <= x[2]))
        self.assertGreater(called(clamp, point, 3), point[2])


if __name__ == "__main__":
    unittest.main()
