"""Points 18, 20 to 22 and 30: what ask tells, the runs of a code and what is recorded of them."""

import unittest

from lessways.asking import Asker, called
from lessways.errors import LessError, NotRow, NoUnknown, Stale
from lessways.shares import Share
from lessways.terms import Term
from lessways.trees import leaves
from tests.codes import any_plan, code_of, form_leaf, form_of, runs_of, same_row, told_points

X, Y, Z = [Term.unknown(k) for k in range(3)]


def seen_runs(asker, code):
    """Of each run, what was asked as (row, answer, recorded), and the runs as the tree tells them."""
    runs = []

    def watched(ask, x):
        told = []
        runs.append(told)

        def asked(row):
            before = asker.asks
            answer = ask(row)
            told.append((row, answer, asker.asks > before))
            return answer

        return code(asked, x)

    return runs, asker.tree(watched)


class AskTest(unittest.TestCase):

    def within(self, look, unknowns=2, given=()):
        """Calls look with the ask and the unknowns of a run."""
        asker = Asker(unknowns, given=given)
        asker.tree(look)
        return asker

    def test_what_the_code_is_handed(self):
        def look(ask, x):
            self.assertIs(type(x), tuple)
            self.assertEqual(list(x), [X, Y, Z][:len(x)])
            many.append(len(x))
        many = []
        for unknowns in (1, 2, 3):
            self.within(look, unknowns)
        self.assertEqual(many, [1, 2, 3])

    def test_truths_are_told_and_not_recorded(self):
        def look(ask, x):
            self.assertIs(ask(True), True)
            self.assertIs(ask(False), False)
        self.assertEqual(self.within(look).asks, 0)

    def test_rows_are_answered_by_truths(self):
        told = []

        def look(ask, x):
            told.append([ask(x[0] > x[1]), ask(x[0] > x[1]), ask(x[1] >= x[0]), ask(x[0] - 1 > x[0])])

        self.within(look)
        self.assertEqual(told, [[False, False, True, False], [True, True, False, False]])
        self.assertTrue(all(type(answer) is bool for answers in told for answer in answers))

    def test_not_row(self):
        def look(ask, x):
            for thing in (None, 1, 0, "x", Share(1), x[0], (x[0] > 0,), [x[0] > 0], [True]):
                with self.assertRaises(NotRow) as caught:
                    ask(thing)
                self.assertIs(caught.exception.thing, thing)
        self.assertEqual(self.within(look).asks, 0)

    def test_no_unknown(self):
        def look(ask, x):
            for row, k in ((Z > 0, 2), (Y > Z, 1), (X > Y, 1), (Y - Y + Z > 1, 2)):
                with self.assertRaises(NoUnknown) as caught:
                    ask(row)
                self.assertEqual(caught.exception.k, k)
            self.assertIs(ask(X + Y > Y + X), False)
        self.assertEqual(self.within(look, 1).asks, 0)

    def test_rows_without_unknowns_are_forced(self):
        def look(ask, x):
            for number, strict, not_strict in ((-1, False, False), (0, False, True), (Share(1, 3), True, True)):
                self.assertIs(ask(Term.constant(number) > 0), strict)
                self.assertIs(ask(Term.constant(number) >= 0), not_strict)
        self.assertEqual(self.within(look).asks, 0)

    def test_given_rows_force(self):
        def look(ask, x):
            self.assertIs(ask(x[0] > 1), True)
            self.assertIs(ask(x[0] <= 1), False)
            self.assertIs(ask(x[1] > x[0] + 1), True)
            ask(x[0] >= 3)
        self.assertEqual(self.within(look, given=[X > 1, Y >= 2 * X]).asks, 2)

    def test_edges_are_told_apart(self):
        told = []

        def look(ask, x):
            told.append([ask(x[0] >= 1), ask(x[0] > 1), ask(x[0] <= 1), ask(x[0] < 1)])

        self.within(look, given=[X <= 1])
        self.assertEqual(told, [[False, False, True, True], [True, False, True, False]])


class StaleTest(unittest.TestCase):

    def test_behind_the_run(self):
        kept = []

        def code(ask, x):
            kept.append(ask)
            return ask(x[0] > 0)

        Asker(1).tree(code)
        self.assertEqual(len(kept), 2)
        for ask in kept:
            for row in (X > 0, X > X, Z > Y, Term.constant(1) > 0):
                with self.assertRaises(Stale) as caught:
                    ask(row)
                self.assertIs(caught.exception.row, row)
            self.assertIs(ask(True), True)
            self.assertIs(ask(False), False)
            for thing in (None, 1, X):
                with self.assertRaises(NotRow) as caught:
                    ask(thing)
                self.assertIs(caught.exception.thing, thing)

    def test_of_the_run_before(self):
        kept = []

        def code(ask, x):
            if kept:
                with self.assertRaises(Stale):
                    kept[-1](x[0] > 0)
            kept.append(ask)
            return ask(x[0] > 0)

        asker = Asker(1)
        self.assertIs(asker.every(code), False)
        self.assertIs(asker.some(code), True)
        self.assertEqual(asker.asks, 3)

    def test_behind_a_run_that_raised(self):
        kept = []

        def code(ask, x):
            kept.append(ask)
            raise KeyError

        for asking in (lambda asker: asker.tree(code), lambda asker: asker.way(code, ())):
            with self.assertRaises(KeyError):
                asking(Asker(1))
            with self.assertRaises(Stale):
                kept[-1](X > 0)

    def test_of_way_and_room(self):
        kept = []

        def code(ask, x):
            kept.append(ask)

        asker = Asker(1)
        asker.way(code, (0,))
        asker.room(code, (0,), 0)
        for ask in kept:
            with self.assertRaises(Stale):
                ask(X > 0)

    def test_both_codes_of_a_parting_are_in_one_run(self):
        kept = []

        def code(ask, x):
            kept.append(ask)
            return ask(x[0] > 0)

        def other(ask, x):
            return kept[-1](x[0] > 0)

        self.assertIsNone(Asker(1).parting(code, other))
        with self.assertRaises(Stale):
            kept[-1](X > 0)


class RunsTest(unittest.TestCase):

    def check_runs(self, plan, unknowns, given=()):
        """What is asked, answered and recorded, run by run, against what is expected of the plan."""
        expected = runs_of(plan, told_points(plan, unknowns, given))
        asker = Asker(unknowns, given=given, most=2000)
        runs, tree = seen_runs(asker, code_of(plan))
        self.assertEqual(len(runs), len(expected))
        for told, run in zip(runs, expected):
            self.assertEqual([ask[1:] for ask in told], [ask[2:] for ask in run.asks])
            for (row, _, _), (form, strict, _, _) in zip(told, run.asks):
                self.assertTrue(same_row(row, form, strict))
        self.check_paths(leaves(tree), expected)
        self.assertEqual(asker.calls, len(expected))
        self.assertEqual(asker.asks, sum(len(run.path) for run in expected))

    def check_paths(self, told, expected):
        self.assertEqual(len(told), len(expected))
        for (path, _), run in zip(told, expected):
            self.assertEqual([answer for _, answer in path], [ask[2] for ask in run.path])
            for (row, _), (form, strict, _, _) in zip(path, run.path):
                self.assertTrue(same_row(row, form, strict))

    def test_one_unknown(self):
        for seed in range(40):
            self.check_runs(any_plan(seed, 1, 6, form_leaf), 1)

    def test_two_unknowns(self):
        for seed in range(40):
            self.check_runs(any_plan(seed, 2, 6, form_leaf, 4), 2)

    def test_three_unknowns(self):
        for seed in range(15):
            self.check_runs(any_plan(seed, 3, 6, form_leaf, 3), 3)

    def test_given_rows(self):
        lists = ([X > 0], [X >= 1, X <= 1], [X > 0, Y > X], [X >= 0, Y >= 0, X + Y <= 2], [2 * X + Y >= 1, X > X - 1],
                 [X - Y >= 0, Y - X >= 0])
        for seed in range(30):
            self.check_runs(any_plan(seed, 2, 5, form_leaf, 3), 2, lists[seed % len(lists)])
        for seed in range(8):
            self.check_runs(any_plan(seed, 3, 5, form_leaf, 2), 3, [[X > Y, Y >= Z], [Z >= 0, Z <= 0]][seed % 2])

    def test_sequence_of_runs(self):
        told = []

        def code(ask, x):
            told.append([ask(x[0] > 0), ask(x[0] > 1), ask(x[1] > 0)])

        asker = Asker(2)
        asker.tree(code)
        self.assertEqual(told, [[False, False, False], [False, False, True], [True, False, False], [True, False, True],
                                [True, True, False], [True, True, True]])
        self.assertEqual((asker.calls, asker.asks), (6, 2 * 2 + 4 * 3))

    def test_a_row_twice_and_turned_round_is_recorded_once(self):
        def code(ask, x):
            one = ask(x[0] < x[1])
            self.assertIs(ask(2 * x[1] > 2 * x[0]), one)
            self.assertIs(ask(x[0] >= x[1]), not one)
            self.assertIs(ask((x[1] - x[0]).over(7) > 0), one)
            return one

        asker = Asker(2)
        self.assertEqual([len(path) for path, _ in leaves(asker.tree(code))], [1, 1])
        self.assertEqual(asker.asks, 2)

    def test_paths_hold_rows_in_their_one_form(self):
        def code(ask, x):
            ask(x[0].over(2) < Share(2, 3) * x[1] + Share(1, 6))

        (no, _), (yes, _) = leaves(Asker(2).tree(code))
        for path, answer in ((no, False), (yes, True)):
            self.assertIs(type(path), tuple)
            self.assertIs(type(path[0]), tuple)
            row, told = path[0]
            self.assertEqual(form_of(row), (1, -3, 4, 0))
            self.assertIs(row.strict, True)
            self.assertIs(told, answer)

    def test_forty_asks_in_a_run(self):
        def code(ask, x):
            answers = [ask(x[k % 3] > k // 3) for k in range(8)]
            answers.extend([ask(x[k % 3] > k // 3) for k in range(8)] * 2)
            answers.extend([ask(x[0] + k > x[0]) for k in range(16)])
            return len(answers)

        asker = Asker(3, most=2000)
        paths = [path for path, value in leaves(asker.tree(code)) if value == 40]
        self.assertEqual(len(paths), 4 * 4 * 3)
        self.assertEqual(asker.calls, 48)


class InnerAskingTest(unittest.TestCase):

    def test_each_has_its_own_rows_so_far(self):
        asker = Asker(1)
        told = []

        def inner(ask, x):
            return ask(x[0] > 1)

        def code(ask, x):
            above = ask(x[0] > 2)
            told.append((above, asker.every(inner), asker.some(inner), ask(x[0] > 1)))
            return above

        asker.tree(code)
        self.assertEqual(told, [(False, False, True, False), (False, False, True, True), (True, False, True, True)])

    def test_each_has_its_own_limits(self):
        asker = Asker(1, deepest=2, most=3)

        def inner(ask, x):
            return [ask(x[0] > 0), ask(x[0] > 1)]

        def code(ask, x):
            one = ask(x[0] > 5)
            self.assertEqual(len(leaves(asker.tree(inner))), 3)
            two = ask(x[0] > 6)
            self.assertEqual(len(leaves(asker.tree(inner))), 3)
            return one, two

        self.assertEqual([value for _, value in leaves(asker.tree(code))],
                         [(False, False), (True, False), (True, True)])
        self.assertEqual(asker.calls, 3 + 2 * 3 * 3)

    def test_an_ask_of_the_outer_run_within_an_inner_asking(self):
        outer = Asker(2)
        for inner in (outer, Asker(1), Asker(2, given=[X > 7])):
            told = []

            def code(ask, x):
                def nested(own, y):
                    own(y[0] > 8)
                    return ask(x[1] > x[0])

                before = outer.asks
                found = inner.tree(nested)
                values = [value for _, value in leaves(found)]
                # Only the first ask of the row is recorded, in the outer run.
                told.append((values, ask(x[1] > x[0]), outer.asks - before - (inner == outer) * 2))
                return values[0]

            self.assertEqual([value for _, value in leaves(outer.tree(code))], [False, True])
            self.assertEqual(told, [([False, False], False, 1), ([True, True], True, 1)])

    def test_unknowns_of_a_row_are_those_of_the_ask(self):
        def code(ask, x):
            def nested(own, y):
                self.assertIs(own(x[0] > 5), True)
                return ask(y[0] > 5)
            return Asker(1, given=[X > 6]).every(nested)

        self.assertEqual([value for _, value in leaves(Asker(1).tree(code))], [False, True])

    def test_ways_rooms_and_calls_within_a_run(self):
        asker = Asker(1, given=[X >= 0])

        def step(ask, x):
            return ask(x[0] > 3)

        def code(ask, x):
            big = ask(x[0] > 1)
            self.assertEqual([answer for _, answer in asker.way(step, (4,))], [True])
            low, high = asker.room(step, (2,), 0)
            self.assertEqual((low, high), ((Share(0), True), (Share(3), True)))
            self.assertIs(called(step, (4,), 1), True)
            return big, ask(x[0] > 0)

        self.assertEqual([value for _, value in leaves(asker.tree(code))],
                         [(False, False), (False, True), (True, True)])

    def test_an_error_of_an_inner_asking_may_be_taken(self):
        asker = Asker(1)

        def failing(ask, x):
            ask(x[0] > 3)
            raise KeyError("inner")

        def code(ask, x):
            one = ask(x[0] > 0)
            with self.assertRaises(KeyError):
                asker.tree(failing)
            with self.assertRaises(LessError):
                asker.every(lambda own, y: 1)
            return one, ask(x[0] > 1)

        self.assertEqual([value for _, value in leaves(asker.tree(code))],
                         [(False, False), (True, False), (True, True)])


if __name__ == "__main__":
    unittest.main()
