"""Points 28 and 29: too deep, too many, wavering, and errors of the code itself."""

import unittest

from lessways.asking import Asker
from lessways.errors import NotNumber, NotRow, NotTruth, NoUnknown, Stale, TooDeep, TooMany, Wavers
from lessways.shares import Share
from lessways.terms import Term
from lessways.trees import leaves

X, Y, Z = [Term.unknown(k) for k in range(3)]


def steps(many):
    """A code that asks whether unknown 0 is above 0, 1, 2 .., as long as it is."""
    def code(ask, x):
        for k in range(many):
            if not ask(x[0] > k):
                return k
        return many
    return code


def thrice(ask, x):
    return [ask(x[0] > k) for k in range(3)]


def apart(ask, x):
    """Asks more than once, whatever the answer to the first row is."""
    return [ask(x[0] > 0), ask(x[0] < -1), ask(x[0] > 9)]


class FaultTest(unittest.TestCase):

    def raised(self, error, asking, *told):
        with self.assertRaises(error) as caught:
            asking(*told)
        return caught.exception.path

    def check_path(self, path, rows, answers):
        self.assertIs(type(path), tuple)
        self.assertTrue(all(type(pair) is tuple and len(pair) == 2 for pair in path))
        self.assertEqual([row for row, _ in path], rows)
        self.assertEqual([answer for _, answer in path], answers)
        self.assertTrue(all(type(answer) is bool for _, answer in path))


class TooDeepTest(FaultTest):

    def test_just_enough_and_one_less(self):
        self.assertEqual(len(leaves(Asker(1, deepest=3).tree(thrice))), 4)
        self.check_path(self.raised(TooDeep, Asker(1, deepest=2).tree, thrice), [X > 0, X > 1], [True, True])
        self.check_path(self.raised(TooDeep, Asker(1, deepest=1).tree, thrice), [X > 0], [True])
        self.check_path(self.raised(TooDeep, Asker(1, deepest=1).tree, apart), [X > 0], [False])

    def test_the_path_so_far_in_a_later_run(self):
        asker = Asker(1, deepest=2)
        path = self.raised(TooDeep, asker.tree, steps(3))
        self.check_path(path, [X > 0, X > 1], [True, True])
        self.assertEqual((asker.calls, asker.asks), (3, 1 + 2 + 2))

    def test_forced_asks_and_truths_do_not_count(self):
        def code(ask, x):
            return [ask(True), ask(x[0] > 0), ask(x[0] > x[0]), ask(2 * x[0] > 0), ask(x[0] <= 0), ask(False)]
        self.assertEqual(len(leaves(Asker(1, deepest=1).tree(code))), 2)

    def test_deepest_is_of_one_run(self):
        for deepest in (1, 8, 12):
            asker = Asker(1, deepest=deepest)
            self.assertEqual(len(leaves(asker.tree(steps(deepest)))), deepest + 1)
            self.assertEqual(len(self.raised(TooDeep, asker.tree, steps(deepest + 1))), deepest)

    def test_of_every_asking(self):
        asker = Asker(1, deepest=1)
        code = steps(2)
        for asking, more in ((asker.tree, ()), (asker.span, ()), (asker.needless, ()), (asker.read, ()),
                             (asker.parting, (code,)), (asker.way, ((5,),)), (asker.room, ((5,), 0))):
            self.check_path(self.raised(TooDeep, asking, code, *more), [X > 0], [True])
        truths = (lambda ask, x: ask(x[0] <= 0) or ask(x[0] > 3))
        for asking in (asker.every, asker.some, asker.first, asker.land):
            self.check_path(self.raised(TooDeep, asking, truths), [X <= 0], [False])

    def test_ways_that_do_not_come_there(self):
        asker = Asker(1, deepest=1)
        self.assertEqual(len(asker.way(steps(2), (0,))), 1)
        self.assertIs(asker.some(lambda ask, x: not ask(x[0] > 0) or ask(x[0] > 1)), True)

    def test_taken_and_asked_again(self):
        told = []

        def code(ask, x):
            ask(x[0] > 0)
            for row in (x[0] > -1, x[0] < -9, x[0] > -1):
                with self.assertRaises(TooDeep) as caught:
                    ask(row)
                told.append(caught.exception.path)
            told.append([ask(x[0] > 0), ask(x[0] > 3), ask(True), ask(x[0] > x[0])])
            with self.assertRaises(NotRow):
                ask(None)
            with self.assertRaises(NoUnknown):
                ask(Y > 0)
            return 5

        asker = Asker(1, deepest=1)
        path = self.raised(TooDeep, asker.span, code)
        self.check_path(path, [X > 0], [False])
        self.assertEqual(told, [path, path, path, [False, False, True, False]])
        self.assertEqual((asker.calls, asker.asks), (1, 1))

    def test_returned_all_the_same(self):
        for value in (True, None, "x", 3):
            def code(ask, x):
                try:
                    apart(ask, x)
                except TooDeep:
                    pass
                return value
            asker = Asker(1, deepest=1)
            for asking, more in ((asker.tree, ()), (asker.every, ()), (asker.some, ()), (asker.first, ()),
                                 (asker.span, ()), (asker.needless, ()), (asker.read, ()), (asker.land, ()),
                                 (asker.parting, (code,)), (asker.way, ((5,),)), (asker.room, ((5,), 0))):
                path = self.raised(TooDeep, asking, code, *more)
                self.check_path(path, [X > 0], [len(more) > 0 and more[0] == (5,)])

    def test_another_error_goes_on_unchanged(self):
        def code(ask, x):
            try:
                apart(ask, x)
            except TooDeep:
                raise KeyError("mine")
        with self.assertRaises(KeyError):
            Asker(1, deepest=1).tree(code)

    def test_the_other_code_of_a_parting_comes_too_deep(self):
        called = []

        def other(ask, x):
            called.append(ask(x[0] > 0))
            ask(x[0] > 1)
            return called[-1]

        asker = Asker(1, deepest=1)
        self.check_path(self.raised(TooDeep, asker.parting, lambda ask, x: ask(x[0] > 0), other), [X > 0], [True])
        self.assertEqual(called, [False, True])


class TooManyTest(FaultTest):

    def test_just_enough_and_one_less(self):
        self.assertEqual(len(leaves(Asker(1, most=4).tree(steps(3)))), 4)
        asker = Asker(1, most=3)
        path = self.raised(TooMany, asker.tree, steps(3))
        self.check_path(path, [X > 0, X > 1, X > 2], [True, True, True])
        self.assertEqual((asker.calls, asker.asks), (3, 1 + 2 + 3))

    def test_what_the_next_run_would_repeat(self):
        def code(ask, x):
            return ask(x[0] > 0), ask(x[1] > 0), ask(x[1] > 1)
        told = []
        for most in range(1, 6):
            told.append([answer for _, answer in self.raised(TooMany, Asker(2, most=most).tree, code)])
        self.assertEqual(told, [[False, True], [False, True, True], [True], [True, True], [True, True, True]])
        self.assertEqual(len(leaves(Asker(2, most=6).tree(code))), 6)

    def test_of_one_asking_alone(self):
        asker = Asker(1, most=2)
        for _ in range(3):
            self.assertEqual(len(leaves(asker.tree(steps(1)))), 2)
        self.assertEqual(asker.calls, 6)

    def test_askings_that_end_early(self):
        asker = Asker(1, most=1)
        self.assertIs(asker.every(lambda ask, x: ask(x[0] > 0)), False)
        self.assertIs(asker.some(lambda ask, x: not ask(x[0] > 0)), True)
        self.assertIsNotNone(asker.first(lambda ask, x: not ask(x[0] > 0)))
        self.assertIsNotNone(asker.parting(steps(1), lambda ask, x: 7))
        self.raised(TooMany, asker.every, lambda ask, x: not ask(x[0] > 0))
        self.raised(TooMany, asker.some, lambda ask, x: ask(x[0] > 0))
        self.raised(TooMany, asker.first, lambda ask, x: ask(x[0] > 0))
        self.raised(TooMany, asker.parting, steps(1), steps(1))

    def test_ahead_of_what_the_next_run_would_tell(self):
        self.raised(TooMany, Asker(1, most=1).span, lambda ask, x: "no" if ask(x[0] > 0) else 1)
        self.raised(TooMany, Asker(1, most=1).read, lambda ask, x: "no" if ask(x[0] > 0) else 1)
        with self.assertRaises(NotNumber):
            Asker(1, most=1).span(lambda ask, x: 1 if ask(x[0] > 0) else "no")

    def test_two_thousand_runs(self):
        def code(ask, x):
            low, high = 0, 2000
            while high - low > 1:
                middle = (low + high) // 2
                low, high = (middle, high) if ask(x[0] >= middle) else (low, middle)
            return low
        asker = Asker(1, deepest=12, most=2000)
        self.assertEqual(asker.span(code), ((Share(0), True), (Share(1999), True)))
        self.assertEqual(asker.calls, 2000)
        path = self.raised(TooMany, Asker(1, deepest=12, most=1999).tree, code)
        self.assertIs(path[-1][1], True)


class WaversTest(FaultTest):

    def test_another_row_in_the_repeated_part(self):
        calls = []

        def code(ask, x):
            calls.append(1)
            if len(calls) > 1:
                return ask(x[0] > 7)
            return ask(x[0] > 0)

        self.check_path(self.raised(Wavers, Asker(1).tree, code), [], [])

    def test_the_turned_ask_is_of_another_row(self):
        calls = []

        def code(ask, x):
            calls.append(1)
            return ask(x[0] > 0), ask(x[0] < -len(calls))

        path = self.raised(Wavers, Asker(1).tree, code)
        self.check_path(path, [X > 0], [False])

    def test_strictness_tells_rows_apart(self):
        calls = []

        def code(ask, x):
            calls.append(1)
            return ask(x[0] > 0) if len(calls) == 1 else ask(x[0] >= 0)

        self.check_path(self.raised(Wavers, Asker(1).tree, code), [], [])

    def test_the_contrary_is_another_row(self):
        calls = []

        def code(ask, x):
            calls.append(1)
            return ask(x[0] > 0) if len(calls) == 1 else not ask(x[0] <= 0)

        self.check_path(self.raised(Wavers, Asker(1).tree, code), [], [])

    def test_equal_rows_do_not_waver(self):
        calls = []

        def code(ask, x):
            calls.append(1)
            return ask(len(calls) * x[0] > len(calls) * 3)

        self.assertEqual(len(leaves(Asker(1).tree(code))), 2)

    def test_forced_asks_and_truths_may_be_others(self):
        calls = []

        def code(ask, x):
            calls.append(1)
            one = ask(x[0] > 0)
            ask(len(calls) > 1)
            if len(calls) > 1:
                ask(x[0] < x[0] + len(calls))
                ask(x[0] > 0)
            return one, ask(x[0] < -5)

        self.assertEqual([value for _, value in leaves(Asker(1).tree(code))],
                         [(False, False), (False, True), (True, False)])

    def test_behind_the_repeated_part_all_is_free(self):
        calls = []

        def code(ask, x):
            calls.append(1)
            if ask(x[0] > 0):
                return ask(x[1] > 77)
            return ask(x[1] > 0) and ask(x[1] > 5)

        paths = [path for path, _ in leaves(Asker(2).tree(code))]
        self.assertEqual([[answer for _, answer in path] for path in paths],
                         [[False, False], [False, True, False], [False, True, True], [True, False], [True, True]])
        self.assertEqual(paths[-1][1][0], Y > 77)

    def test_a_run_that_returns_too_early(self):
        for value in (True, None, 3):
            calls = []

            def code(ask, x):
                calls.append(1)
                if len(calls) == 2:
                    return value
                return ask(x[0] > 0) or ask(x[0] < -5)

            asker = Asker(1)
            self.check_path(self.raised(Wavers, asker.tree, code), [], [])
            self.assertEqual((asker.calls, asker.asks), (2, 2))

    def test_ahead_of_not_truth_and_not_number(self):
        for name in ("every", "some", "first", "land", "span", "read"):
            calls = []

            def code(ask, x):
                calls.append(1)
                if len(calls) == 2:
                    ask(x[0] > 0)
                    return "neither"
                told = ask(x[0] > 0), ask(x[0] < -5)
                return name == "every" if name in ("every", "some", "first", "land") else len(told)

            self.check_path(self.raised(Wavers, getattr(Asker(1), name), code), [X > 0], [False])

    def test_too_few_rows_at_the_end_of_a_run(self):
        calls = []

        def code(ask, x):
            calls.append(1)
            ask(x[0] > 0)
            if len(calls) == 1:
                ask(x[0] < -5)

        self.check_path(self.raised(Wavers, Asker(1).tree, code), [X > 0], [False])

    def test_taken_and_asked_again(self):
        calls, told = [], []

        def code(ask, x):
            calls.append(1)
            if len(calls) == 1:
                return ask(x[0] > 0), ask(x[0] < -5)
            ask(x[0] > 0)
            for row in (x[0] < -6, x[0] < -5, x[0] > -1):
                with self.assertRaises(Wavers) as caught:
                    ask(row)
                told.append(caught.exception.path)
            told.append([ask(x[0] > 0), ask(x[0] > 3), ask(True), ask(x[0] > x[0])])
            return True

        asker = Asker(1)
        path = self.raised(Wavers, asker.tree, code)
        self.check_path(path, [X > 0], [False])
        self.assertEqual(told, [path, path, path, [False, False, True, False]])
        self.assertEqual((asker.calls, asker.asks), (2, 3))

    def test_the_first_fault_is_kept(self):
        calls, told = [], []

        def code(ask, x):
            calls.append(1)
            rows = [x[0] > 0, x[0] < -5] if len(calls) == 1 else [x[0] > 0, x[0] < -6, x[0] < -7, x[0] < -8]
            for row in rows:
                try:
                    ask(row)
                except (TooDeep, Wavers) as error:
                    told.append(error)
            return 1

        path = self.raised(Wavers, Asker(1, deepest=2).tree, code)
        self.check_path(path, [X > 0], [False])
        self.assertEqual([type(error) for error in told], [Wavers, Wavers, Wavers])

    def test_of_the_other_code_of_a_parting(self):
        calls = []

        def other(ask, x):
            calls.append(1)
            return ask(x[0] > 1) if len(calls) == 1 else None

        self.check_path(self.raised(Wavers, Asker(1).parting, lambda ask, x: ask(x[0] < 0), other), [X < 0], [False])

    def test_the_asker_goes_on_as_before(self):
        asker = Asker(1)
        calls = []

        def code(ask, x):
            calls.append(1)
            return ask(x[0] > len(calls))

        self.raised(Wavers, asker.tree, code)
        self.assertEqual(len(leaves(asker.tree(steps(3)))), 4)


class ErrorsOfTheCodeTest(FaultTest):

    def test_go_on_unchanged_and_end_the_asking(self):
        errors = [KeyError("a"), ValueError("b"), TooDeep("mine"), Wavers("mine"), TooMany("mine"), Stale(1),
                  NotTruth("mine"), NotNumber("mine"), StopIteration(), KeyboardInterrupt()]
        asker = Asker(1)
        for error in errors:
            calls = []

            def code(ask, x):
                calls.append(1)
                if ask(x[0] > 0):
                    raise error
                return True

            for asking, more in ((asker.tree, ()), (asker.every, ()), (asker.needless, ()), (asker.land, ()),
                                 (asker.way, ((1,),)), (asker.room, ((1,), 0)), (asker.parting, (code,))):
                del calls[:]
                with self.assertRaises(type(error)) as caught:
                    asking(code, *more)
                self.assertIs(caught.exception, error)
                self.assertLessEqual(len(calls), 3)
            self.assertIs(asker.some(code), True)

    def test_not_row_ends_the_asking_or_is_taken(self):
        def code(ask, x):
            return ask(x[0])

        def careful(ask, x):
            try:
                return ask(x[0])
            except NotRow:
                return ask(x[0] > 0)

        asker = Asker(1)
        with self.assertRaises(NotRow):
            asker.tree(code)
        self.assertEqual([value for _, value in leaves(asker.tree(careful))], [False, True])

    def test_no_truth(self):
        asker = Asker(1)
        for value in (1, 0, None, "True", Share(1), X, [True]):
            def code(ask, x):
                return value if ask(x[0] > 0) else True

            for asking in (asker.every, asker.land):
                self.check_path(self.raised(NotTruth, asking, code), [X > 0], [True])

            def other(ask, x):
                return value if not ask(x[0] > 0) else False

            for asking in (asker.every, asker.some, asker.first, asker.land):
                self.check_path(self.raised(NotTruth, asking, other), [X > 0], [False])
        self.check_path(self.raised(NotTruth, asker.every, lambda ask, x: None), [], [])

    def test_no_number(self):
        asker = Asker(1)
        for value in (True, False, None, "1", 1.5, [1], X > 0):
            def code(ask, x):
                return value if ask(x[0] > 0) else x[0]

            for asking in (asker.span, asker.read):
                self.check_path(self.raised(NotNumber, asking, code), [X > 0], [True])
        self.check_path(self.raised(NotNumber, asker.read, lambda ask, x: None), [], [])

    def test_they_come_behind_their_run(self):
        asker = Asker(1)
        calls = []

        def code(ask, x):
            calls.append(ask(x[0] > 0))
            return None

        for asking in (asker.every, asker.some, asker.first, asker.land, asker.span, asker.read):
            del calls[:]
            self.raised((NotTruth, NotNumber), asking, code)
            self.assertEqual(calls, [False])


if __name__ == "__main__":
    unittest.main()
