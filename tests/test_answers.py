"""Points 23 to 27: every, some, first, parting, span, way, room and needless."""

import unittest
from fractions import Fraction

from lessways.asking import Asker, called
from lessways.errors import NotCounted, NotNumber, NotRow, NotTruth, NoUnknown
from lessways.shares import Share
from lessways.terms import Term
from tests.codes import (any_plan, called_plain, code_of, ends_of, flat, form_leaf, form_of, forms_of, holds, is_form,
                         linear, runs_of, same_row, told_points, truth_leaf, value_at)
from tests.faces import faces_of, worth
from tests.reckoned import bounds

X, Y, Z = [Term.unknown(k) for k in range(3)]
GIVEN = ([], [X > 0], [X >= 1, X <= 1], [X > 0, Y > X], [X >= 0, Y >= 0, X + Y <= 2], [X - Y >= 0, Y - X >= 0])


class Checked(unittest.TestCase):

    def check_point(self, point):
        """A told point as fractions."""
        self.assertIs(type(point), tuple)
        self.assertEqual([type(share) for share in point], [Share, Share, Share])
        return flat(point)


class TruthsTest(Checked):

    def test_every_some_and_first(self):
        for seed in range(60):
            unknowns = 1 + seed % 2
            given = [] if unknowns == 1 else GIVEN[seed % len(GIVEN)]
            plan = any_plan(seed, unknowns, 4, truth_leaf, 4)
            runs = runs_of(plan, told_points(plan, unknowns, given))
            told = [run.value for run in runs]
            asker = Asker(unknowns, given=given)
            code = code_of(plan)
            self.assertIs(asker.every(code), all(told))
            self.assertEqual(asker.calls, len(told) if all(told) else told.index(False) + 1)
            self.assertIs(asker.some(code), any(told))
            self.check_first(asker, code, unknowns, given, runs)

    def check_first(self, asker, code, unknowns, given, runs):
        before = asker.calls
        point = asker.first(code)
        within = [at for at, run in enumerate(runs) if run.value]
        self.assertEqual(asker.calls - before, within[0] + 1 if within else len(runs))
        if not within:
            self.assertIsNone(point)
            return
        point = self.check_point(point)
        self.assertTrue(all(holds(row, point) for row in given))
        self.assertIs(called_plain(code, point[:unknowns]), True)
        for form, strict, answer, _ in runs[within[0]].path:
            share = worth(form, point)
            self.assertIs(share > 0 or share == 0 and not strict, answer)

    def test_thin_faces(self):
        asker = Asker(2)
        self.assertIs(asker.every(lambda ask, x: not (ask(x[0] >= 1) and ask(x[0] <= 1))), False)
        self.assertIs(asker.every(lambda ask, x: not (ask(x[0] >= 1) and ask(x[0] < 1))), True)
        point = asker.first(lambda ask, x: ask(3 * x[0] >= 1) and ask(3 * x[0] <= 1) and ask(x[1] <= x[0])
                            and ask(x[1] >= x[0]))
        self.assertEqual(self.check_point(point)[:2], (Fraction(1, 3), Fraction(1, 3)))
        self.assertIsNone(asker.first(lambda ask, x: ask(x[0] > 1) and ask(x[0] + x[1] < 1) and ask(x[1] >= 0)))

    def test_codes_without_asks(self):
        asker = Asker(1, given=[X > 3, X < 4])
        self.assertIs(asker.every(lambda ask, x: True), True)
        self.assertIs(asker.some(lambda ask, x: False), False)
        self.assertIsNone(asker.first(lambda ask, x: False))
        point = self.check_point(asker.first(lambda ask, x: True))
        self.assertTrue(3 < point[0] < 4)

    def test_they_end_early(self):
        asker = Asker(1)

        def code(ask, x):
            return True if ask(x[0] > 0) else False

        def other(ask, x):
            return None if ask(x[0] > 0) else True

        self.assertIs(asker.every(code), False)
        self.assertIs(asker.some(other), True)
        self.assertIsNotNone(asker.first(other))
        self.assertEqual(asker.calls, 3)
        for asking in (asker.every, lambda told: asker.some(lambda ask, x: not told(ask, x) if told(ask, x) else None)):
            with self.assertRaises(NotTruth):
                asking(other)

    def test_one_and_nought_are_no_truths(self):
        for value in (1, 0, None, Share(1)):
            for asking in (Asker(1).every, Asker(1).some, Asker(1).first):
                with self.assertRaises(NotTruth) as caught:
                    asking(lambda ask, x: value)
                self.assertEqual(caught.exception.path, ())


class PartingTest(Checked):

    def check(self, unknowns, given, code, other, there):
        """Whether parting is right, where there is or is no point at which the values are unlike."""
        asker = Asker(unknowns, given=given, most=2000, deepest=12)
        point = asker.parting(code, other)
        if not there:
            self.assertIsNone(point)
            return
        point = self.check_point(point)
        self.assertTrue(all(holds(row, point) for row in given))
        self.assertNotEqual(called_plain(code, point[:unknowns]), called_plain(other, point[:unknowns]))

    def test_numbers(self):
        for seed in range(60):
            unknowns = 1 + seed % 2
            given = [] if unknowns == 1 else GIVEN[seed % len(GIVEN)]
            one = any_plan(seed, unknowns, 3, form_leaf, 2)
            two = self.altered(one) if seed % 3 else any_plan(seed + 1000, unknowns, 3, form_leaf, 2)
            there = any(value_at(one, point) != value_at(two, point) for point in self.points(unknowns, given, one, two))
            self.check(unknowns, given, code_of(one), code_of(two), there)

    def points(self, unknowns, given, one, two):
        """Points that count, on all faces of the asks and of each difference of values."""
        forms = [*forms_of(one), *forms_of(two), *[form_of(row) for row in given]]
        for gap in sorted(self.gaps(one, two)):
            for point in faces_of([*forms, gap], unknowns):
                if all(holds(row, point) for row in given):
                    yield point

    def gaps(self, one, two):
        """The forms by which the values of two plans differ."""
        return {tuple(a - b for a, b in zip(self.whole(left), self.whole(right)))
                for left in ends_of(one) for right in ends_of(two)}

    def whole(self, value):
        return value if is_form(value) else (value, 0, 0, 0)

    def altered(self, plan):
        """A plan that tells the same, or other things on faces of its own asks alone."""
        if plan[0] == "leaf":
            return plan
        _, form, strict, wording, no, yes = plan
        if sum(form) & 3 == 1:
            return ("ask", form, not strict, wording, self.altered(no), self.altered(yes))
        return ("ask", tuple(-number for number in form), not strict, wording, self.altered(yes), self.altered(no))

    def test_unlike_on_a_thin_face_alone(self):
        asker = Asker(2)

        def code(ask, x):
            return 1 if ask(x[0] > x[1]) else 2

        def other(ask, x):
            return 1 if ask(x[0] >= x[1]) else 2

        point = self.check_point(asker.parting(code, other))
        self.assertEqual(point[0], point[1])
        self.assertIsNone(Asker(2, given=[X + Y > 0, X < 0]).parting(code, other))

    def test_terms_that_meet(self):
        asker = Asker(1)
        point = self.check_point(asker.parting(lambda ask, x: 2 * x[0], lambda ask, x: x[0] + 1))
        self.assertNotEqual(point[0], 1)
        fixed = Asker(1, given=[X >= 1, X <= 1])
        self.assertIsNone(fixed.parting(lambda ask, x: 2 * x[0], lambda ask, x: x[0] + 1))
        self.assertIsNone(fixed.parting(lambda ask, x: 2, lambda ask, x: x[0] + Share(1)))
        self.assertIsNone(asker.parting(lambda ask, x: 2, lambda ask, x: Share(4, 2)))
        self.assertIsNone(asker.parting(lambda ask, x: Term.constant(2), lambda ask, x: 2))
        self.assertIsNotNone(asker.parting(lambda ask, x: 2, lambda ask, x: Share(5, 2)))

    def test_other_values(self):
        alike = [("a", "a"), (None, None), (True, True), (False, False), ([1, X], [1, X]), ((X,), (X,)), ({}, {}),
                 (X > 0, 2 * X > 0), (1.5, 1.5), ([1], [True])]
        unlike = [("a", "b"), (None, False), (True, 1), (1, True), (False, 0), (0, False), (True, Share(1)), (True, X),
                  (X, True), (True, False), ("1", 1), (1, "1"), ([X], [X + 1]), ((X, Y), (Y, X)), (None, 0), (X, None),
                  (True, 1.0), (0.0, False), (X > 0, X >= 0), ([1], (1,))]
        for one, other in alike:
            self.assertIsNone(Asker(2).parting(lambda ask, x: one, lambda ask, x: other))
        for one, other in unlike:
            asker = Asker(2, given=[X > 3])
            point = self.check_point(asker.parting(lambda ask, x: one, lambda ask, x: other))
            self.assertGreater(point[0], 3)

    def test_both_are_called_in_one_run(self):
        asker = Asker(1)
        calls = []

        def code(ask, x):
            calls.append("code")
            return ask(x[0] > 0)

        def other(ask, x):
            calls.append("other")
            self.assertEqual(calls[-2], "code")
            return ask(x[0] > 0)

        self.assertIsNone(asker.parting(code, other))
        self.assertEqual(calls, ["code", "other"] * 2)
        self.assertEqual((asker.calls, asker.asks), (2, 2))

    def test_it_ends_at_the_first_run_that_has_a_point(self):
        asker = Asker(1)
        point = self.check_point(asker.parting(lambda ask, x: [ask(x[0] > 0), ask(x[0] > 1)], lambda ask, x: 1))
        self.assertLessEqual(point[0], 0)
        self.assertEqual(asker.calls, 1)
        point = self.check_point(asker.parting(code=lambda ask, x: ask(x[0] > 0) and ask(x[0] > 1),
                                               other=lambda ask, x: ask(x[0] > 0)))
        self.assertTrue(0 < point[0] <= 1)
        self.assertEqual(asker.calls, 3)


class SpanTest(Checked):

    def flat_span(self, span):
        self.assertIs(type(span), tuple)
        self.assertEqual(len(span), 2)
        for end in span:
            if end is not None:
                self.assertIs(type(end), tuple)
                self.assertEqual([type(part) for part in end], [Share, bool])
        return tuple(end and (flat(end[0]), end[1]) for end in span)

    def joined(self, spans):
        """The pair (least, greatest) of several of them."""
        lows = [low for low, _ in spans]
        highs = [high for _, high in spans]
        low = None if None in lows else min(lows, key=lambda end: (end[0], not end[1]))
        high = None if None in highs else max(highs)
        return low, high

    def expected(self, runs, given):
        """The span of runs of a plan, with the test's own reckoning of the rows along each of them."""
        found = []
        for run in runs:
            rows = [self.row_of(ask) for ask in run.path]
            value = run.value if is_form(run.value) else (run.value, 0, 0, 0)
            found.append(bounds([*given, *rows], linear(value, (X, Y, Z))))
        return self.joined(found)

    def row_of(self, ask):
        form, strict, answer, _ = ask
        term = linear(form, (X, Y, Z))
        row = term > 0 if strict else term >= 0
        return row if answer else ~row

    def test_codes(self):
        for seed in range(60):
            unknowns = 1 + seed % 3
            given = [] if unknowns == 1 else GIVEN[seed % len(GIVEN)]
            plan = any_plan(seed, unknowns, 3, form_leaf, 5 - unknowns)
            runs = runs_of(plan, told_points(plan, unknowns, given))
            told = Asker(unknowns, given=given).span(code_of(plan))
            self.assertEqual(self.flat_span(told), self.expected(runs, given))

    def test_ends_reached_and_not_reached(self):
        def code(ask, x):
            if ask(x[0] > 1):
                return 1 if ask(x[0] >= 3) else 2 - x[0].over(2)
            return 0 if ask(x[0] < 0) else x[0]
        self.assertEqual(self.flat_span(Asker(1).span(code)), ((0, True), (Fraction(3, 2), False)))
        self.assertEqual(self.flat_span(Asker(1, given=[X > 0, X < 1]).span(code)), ((0, False), (1, False)))
        self.assertEqual(self.flat_span(Asker(1, given=[X >= 2, X <= 2]).span(code)), ((1, True), (1, True)))

    def test_an_end_reached_elsewhere(self):
        def code(ask, x):
            if ask(x[0] > 0):
                return 5 if ask(x[0] > 5) else x[0]
            return 0 if ask(x[0] < -5) else x[0] + 5
        self.assertEqual(self.flat_span(Asker(1).span(code)), ((0, True), (5, True)))

    def test_without_end(self):
        self.assertEqual(Asker(1).span(lambda ask, x: x[0]), (None, None))
        self.assertEqual(Asker(1).span(lambda ask, x: x[0] if ask(x[0] > 0) else 1), ((Share(0), False), None))
        self.assertEqual(Asker(1).span(lambda ask, x: x[0] if ask(x[0] <= 0) else 1), (None, (Share(1), True)))
        self.assertEqual(Asker(3, given=[Z >= 1, Y > Z, X <= 0]).span(lambda ask, x: x[1] + x[2]),
                         ((Share(2), False), None))

    def test_numbers_alone(self):
        for number, top in ((3, 3), (Share(-1, 2), Share(-1, 2)), (Term.constant(7), 7)):
            span = Asker(2).span(lambda ask, x: number)
            self.assertEqual(self.flat_span(span), ((flat(Share(1) * top), True),) * 2)

    def test_it_makes_all_runs(self):
        asker = Asker(1)
        asker.span(lambda ask, x: x[0] if ask(x[0] > 0) else x[0])
        self.assertEqual(asker.calls, 2)
        with self.assertRaises(NotNumber):
            asker.span(lambda ask, x: None if ask(x[0] > 0) else x[0])


class WayTest(Checked):

    def test_ways_of_plans(self):
        for seed in range(40):
            unknowns = 1 + seed % 2
            given = [] if unknowns == 1 else GIVEN[seed % len(GIVEN)]
            plan = any_plan(seed, unknowns, 4, form_leaf, 3)
            runs = runs_of(plan, told_points(plan, unknowns, given))
            asker = Asker(unknowns, given=given)
            for run in runs:
                for point in run.points[:6]:
                    before = asker.calls
                    path = asker.way(code_of(plan), [Share(one.numerator, one.denominator) for one in point])
                    self.check_way(path, run)
                    self.assertEqual(asker.calls, before + 1)

    def check_way(self, path, run):
        self.assertIs(type(path), tuple)
        self.assertEqual([answer for _, answer in path], [ask[2] for ask in run.path])
        for (row, _), (form, strict, _, _) in zip(path, run.path):
            self.assertTrue(same_row(row, form, strict))

    def test_points_of_all_kinds(self):
        def code(ask, x):
            return ask(x[0] > 1), ask(x[1] > 0)
        asker = Asker(2)
        for point, answers in (((), [False, False]), ([2], [True, False]), ((Share(3, 2), 1), [True, True]),
                               ((0, Share(1, 9), 5), [False, True]), ([1, 0, 0], [False, False])):
            self.assertEqual([answer for _, answer in asker.way(code, point)], answers)
        self.assertEqual([answer for _, answer in asker.way(code=code, point=(2, 2))], [True, True])

    def test_not_counted(self):
        asker = Asker(2, given=[X >= 1, Y > X])
        calls = []

        def code(ask, x):
            calls.append(1)
            return True

        for point in ((), [0, 5], (1, 1), (Share(9, 10), 4), [1]):
            for asking in (lambda: asker.way(code, point), lambda: asker.room(code, point, 0)):
                with self.assertRaises(NotCounted) as caught:
                    asking()
                self.assertIs(caught.exception.point, point)
        self.assertEqual((calls, asker.calls), ([], 0))
        self.assertEqual(asker.way(code, (1, Share(11, 10))), ())

    def test_the_point_is_the_callers(self):
        point = [1]

        def code(ask, x):
            point.clear()
            return ask(x[0] > 0)

        self.assertEqual([answer for _, answer in Asker(1).way(code, point)], [True])
        point.append(1)
        self.assertEqual(Asker(1).room(code, point, 0), ((Share(0), False), None))


class RoomTest(Checked):

    def test_rooms_of_plans(self):
        spans = SpanTest()
        for seed in range(30):
            unknowns = 1 + seed % 3
            given = [] if unknowns == 1 else GIVEN[seed % len(GIVEN)]
            plan = any_plan(seed, unknowns, 3, form_leaf, 5 - unknowns)
            asker = Asker(unknowns, given=given)
            for run in runs_of(plan, told_points(plan, unknowns, given)):
                point = [Share(one.numerator, one.denominator) for one in run.points[0]]
                rows = [spans.row_of(ask) for ask in run.path]
                for k in range(unknowns):
                    fixed = [row for other in range(unknowns) if other != k
                             for row in (Term.unknown(other) >= point[other], Term.unknown(other) <= point[other])]
                    told = asker.room(code_of(plan), point, k)
                    self.assertEqual(spans.flat_span(told), bounds([*given, *rows, *fixed], Term.unknown(k)))

    def test_ends(self):
        def code(ask, x):
            return ask(x[0] > x[1]) and ask(x[0] <= 10)
        asker = Asker(2, given=[Y >= 0])
        self.assertEqual(asker.room(code, (5, 2), 0), ((Share(2), False), (Share(10), True)))
        self.assertEqual(asker.room(code, (5, 2), 1), ((Share(0), True), (Share(5), False)))
        self.assertEqual(asker.room(code, (5, 5), 0), (None, (Share(5), True)))
        self.assertEqual(asker.room(code=code, point=[15, 0], k=0), ((Share(10), False), None))
        self.assertEqual(asker.calls, 4)

    def test_worths_that_are_not_given(self):
        def code(ask, x):
            return ask(x[0] > x[1] + 2 * x[2])
        asker = Asker(3)
        self.assertEqual(asker.room(code, (), 0), (None, (Share(0), True)))
        self.assertEqual(asker.room(code, (), 1), ((Share(0), True), None))
        self.assertEqual(asker.room(code, [4], 0), ((Share(0), False), None))
        self.assertEqual(asker.room(code, [4], 1), (None, (Share(4), False)))
        self.assertEqual(asker.room(code, [4], 2), (None, (Share(2), False)))
        self.assertEqual(asker.room(code, [4, 1], 2), (None, (Share(3, 2), False)))
        self.assertEqual(asker.room(code, [4, 1, 7, 9, 9], 0), (None, (Share(15), True)))

    def test_no_unknown_comes_first(self):
        asker = Asker(2, given=[X > 0])
        for k in (2, 3, -1, True, None, Share(1), "0"):
            with self.assertRaises(NoUnknown) as caught:
                asker.room(lambda ask, x: 1, (0, 0), k)
            self.assertIs(caught.exception.k, k)
        self.assertEqual(asker.calls, 0)

    def test_one_worth_alone(self):
        asker = Asker(2, given=[X + Y >= 2, X + Y <= 2])
        self.assertEqual(asker.room(lambda ask, x: True, (Share(1, 2), Share(3, 2)), 1),
                         ((Share(3, 2), True), (Share(3, 2), True)))


class NeedlessTest(Checked):

    def check_weights(self, weights, rows):
        """That weights show that rows hold nowhere together."""
        self.assertIs(type(weights), list)
        self.assertEqual([type(weight) for weight in weights], [int] * len(rows))
        self.assertTrue(all(weight >= 0 for weight in weights))
        total = [sum(weight * form_of(row)[k] for weight, row in zip(weights, rows)) for k in range(4)]
        self.assertEqual(total[1:], [0, 0, 0])
        strict = any(row.strict and weight > 0 for weight, row in zip(weights, rows))
        self.assertTrue(total[0] < 0 or total[0] == 0 and strict)

    def check_one(self, told, given):
        path, row, answer, weights = told
        self.assertIs(type(told), tuple)
        self.assertIs(type(path), tuple)
        self.assertIs(type(answer), bool)
        rows = [*given, *[one if said else ~one for one, said in path], ~row if answer else row]
        self.check_weights(weights, rows)

    def expected(self, runs):
        """(path, ask) of the forced asks, those left out that a run makes ahead of its turned ask."""
        found, last = [], None
        for run in runs:
            turned = self.turned(last, run)
            for at, ask in enumerate(run.asks):
                path = [one for one in run.asks[:at] if one[3]]
                if not ask[3] and len(path) >= turned:
                    found.append((path, ask))
            last = run
        return found

    def turned(self, last, run):
        """How many asks a run repeats, the turned one among them."""
        if last is None:
            return 0
        return len(last.path) - [one[2] for one in reversed(last.path)].index(False)

    def test_codes(self):
        many = 0
        for seed in range(60):
            unknowns = 1 + seed % 3
            given = [] if unknowns == 1 else GIVEN[seed % len(GIVEN)]
            plan = any_plan(seed, unknowns, 5, form_leaf, 4 - seed % 2)
            if unknowns == 3:
                plan = any_plan(seed, unknowns, 4, form_leaf, 2)
            wanted = self.expected(runs_of(plan, told_points(plan, unknowns, given)))
            told = Asker(unknowns, given=given).needless(code_of(plan))
            self.assertIs(type(told), list)
            self.assertEqual(len(told), len(wanted))
            many += len(told)
            for one, (path, ask) in zip(told, wanted):
                self.check_one(one, given)
                self.assertEqual([answer for _, answer in one[0]], [said[2] for said in path])
                for (row, _), (form, strict, _, _) in zip([*one[0], (one[1], 0)], [*path, ask]):
                    self.assertTrue(same_row(row, form, strict))
                self.assertIs(one[2], ask[2])
        self.assertGreater(many, 100)

    def test_asks_ahead_of_the_turned_one_are_left_out(self):
        def code(ask, x):
            ask(x[0] < x[0])
            one = ask(x[0] > 0)
            ask(x[0] >= x[0])
            two = ask(x[0] < -1)
            ask(x[0] > -1 if two else x[0] <= 5 if not one else x[0] > -5)
            ask(True)
            return one, two

        told = Asker(1).needless(code)
        self.assertEqual([(row, answer, len(path)) for path, row, answer, _ in told],
                         [(X < X, False, 0), (X >= X, True, 1), (X <= 5, True, 2),
                          (X > -1, False, 2), (X >= X, True, 1), (X < -1, False, 1), (X > -5, True, 1)])
        for one in told:
            self.check_one(one, [])

    def test_a_run_may_force_other_asks_ahead_of_the_turned_one(self):
        calls = []

        def code(ask, x):
            calls.append(1)
            ask(x[0] < x[0] + len(calls))
            ask(x[0] > 0)
            ask(x[0] < x[0] - len(calls))

        told = Asker(1).needless(code)
        self.assertEqual([(row, answer) for _, row, answer, _ in told],
                         [(X < X + 1, True), (X < X - 1, False), (X < X - 2, False)])

    def test_with_given_rows(self):
        given = [X >= 1, Y > X, X + Y <= 10]
        told = Asker(2, given=given).needless(lambda ask, x: [ask(x[1] > 1), ask(x[0] < 5), ask(x[0] >= 5)])
        self.assertEqual([(row, answer, len(path)) for path, row, answer, _ in told],
                         [(Y > 1, True, 0), (X < 5, True, 0), (X >= 5, False, 0)])
        for one in told:
            self.check_one(one, given)

    def test_none(self):
        asker = Asker(1)
        self.assertEqual(asker.needless(lambda ask, x: ask(x[0] > 0)), [])
        self.assertEqual(asker.calls, 2)
        self.assertEqual(asker.needless(lambda ask, x: ask(True)), [])


class CalledTest(unittest.TestCase):

    def test_numbers_in_the_place_of_unknowns(self):
        def code(ask, x):
            self.assertIs(type(x), tuple)
            self.assertTrue(all(type(one) is Share for one in x))
            return [str(one) for one in x]
        for point, unknowns, told in (((), 2, ["0", "0"]), ([1], 3, ["1", "0", "0"]), ((Share(1, 2), 3), 1, ["1/2"]),
                                      ((1, 2, Share(-3, 2)), 3, ["1", "2", "-3/2"]), ([4, 5, 6], 2, ["4", "5"])):
            self.assertEqual(called(code, point, unknowns), told)
        self.assertEqual(called(code=code, point=(7,), unknowns=1), ["7"])

    def test_asks(self):
        def code(ask, x):
            return [ask(True), ask(False), ask(x[0] > 1), ask(x[0] <= x[1]), ask(X > 1), ask(Z >= 3), ask(Z > 3)]
        self.assertEqual(called(code, (2, 1, 3), 2), [True, False, True, False, True, True, False])
        self.assertEqual(called(code, [], 2), [True, False, False, True, False, False, False])
        for answer in called(code, (2, 1, 3), 3):
            self.assertIs(type(answer), bool)

    def test_not_row(self):
        from lessways.errors import NotRow
        for thing in (None, 1, 0, "x", Share(1), X, (X > 0,)):
            with self.assertRaises(NotRow) as caught:
                called(lambda ask, x: ask(thing), (1,), 1)
            self.assertIs(caught.exception.thing, thing)

    def test_errors_and_values_go_on_unchanged(self):
        error = KeyError("mine")

        def failing(ask, x):
            raise error

        with self.assertRaises(KeyError) as caught:
            called(failing, (), 1)
        self.assertIs(caught.exception, error)
        value = [1]
        self.assertIs(called(lambda ask, x: value, (), 1), value)

    def test_the_point_is_the_callers(self):
        point = [1, 2]

        def code(ask, x):
            point.clear()
            return ask(Y > 1)

        self.assertIs(called(code, point, 1), True)

    def test_as_the_plan_tells(self):
        for seed in range(30):
            unknowns = 1 + seed % 2
            plan = any_plan(seed, unknowns, 4, form_leaf, 3)
            for point in told_points(plan, unknowns)[:20]:
                told = called(code_of(plan), [Share(one.numerator, one.denominator) for one in point], unknowns)
                self.assertEqual(told, Share(1) * Share(value_at(plan, point).numerator,
                                                        value_at(plan, point).denominator))


if __name__ == "__main__":
    unittest.main()
