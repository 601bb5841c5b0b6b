"""Points 41 to 43: lands."""

import operator
import unittest
from fractions import Fraction

from lessways.asking import Asker
from lessways.errors import BadCount, HasGiven, NotRow, NotTruth, NoUnknown, UnlikeCounts
from lessways.lands import Land
from lessways.shares import Share
from lessways.terms import Term
from tests.codes import (any_plan, code_of, flat, form_of, forms_of, holds, runs_of, told_points, truth_leaf, value_at)
from tests.faces import faces_of
from tests.reckoned import bounds

X, Y, Z = [Term.unknown(k) for k in range(3)]
SIGNS = (operator.and_, operator.or_, operator.sub, operator.xor)
ORDERS = (operator.le, operator.lt, operator.ge, operator.gt)


def shares(point):
    return tuple(Share(one.numerator, one.denominator) for one in point)


def box(*rows, unknowns=2):
    return Land.of_rows(unknowns, rows)


ALL = box()
NOWHERE = box(X > X)


class Plan:
    """A land, and the points of a list that are in it by the test's own reckoning."""

    def __init__(self, plan, unknowns, points):
        self.land = Asker(unknowns).land(code_of(plan))
        self.within = {point for point in points if value_at(plan, point)}


def pairs(seeds):
    """Pairs of plans with the points on all faces of both."""
    for seed in seeds:
        unknowns = 1 + seed % 2
        one = any_plan(seed, unknowns, 4, truth_leaf, 3)
        two = any_plan(seed + 500, unknowns, 4, truth_leaf, 3)
        points = faces_of([*forms_of(one), *forms_of(two)], unknowns)
        yield unknowns, points, Plan(one, unknowns, points), Plan(two, unknowns, points)
    for seed in seeds[::10]:
        one = any_plan(seed, 3, 3, truth_leaf, 2)
        two = any_plan(seed + 500, 3, 3, truth_leaf, 2)
        points = faces_of([*forms_of(one), *forms_of(two)], 3)
        yield 3, points, Plan(one, 3, points), Plan(two, 3, points)


class Checked(unittest.TestCase):

    def check_land(self, land, within, points, unknowns):
        """That a land has just these of the points, and tells so of itself."""
        self.assertIs(type(land), Land)
        self.assertEqual(land.unknowns, unknowns)
        self.assertEqual({point for point in points if shares(point) in land}, set(within))
        self.assertIs(land.is_all(), len(within) == len(points))
        one = land.one_point()
        if not within:
            self.assertIsNone(one)
            return
        self.check_point(one)
        self.assertIn(one, land)

    def check_point(self, point):
        self.assertIs(type(point), tuple)
        self.assertEqual([type(share) for share in point], [Share, Share, Share])
        return flat(point)


class MakingTest(Checked):

    def test_of_codes(self):
        for unknowns, points, one, _ in pairs(range(40)):
            self.check_land(one.land, one.within, points, unknowns)

    def test_of_rows(self):
        lists = ([], [X > 0], [X >= 1, X <= 1], [X > 0, Y > X, 2 * Y <= 3], [X >= 1, Y >= 1, X + Y <= 2], [X > X],
                 [X >= X], [X > 0, X > 0, X < 0], [Term.constant(1) > 0, Y > 2])
        for rows in lists:
            points = faces_of([form_of(row) for row in rows], 2)
            within = {point for point in points if all(holds(row, point) for row in rows)}
            self.check_land(Land.of_rows(2, rows), within, points, 2)
            self.check_land(Land.of_rows(unknowns=2, rows=tuple(rows)), within, points, 2)

    def test_of_many_rows(self):
        rows = [k * X + (24 - k) * Y <= 100 + k for k in range(24)]
        land = Land.of_rows(3, rows)
        self.assertIn((0, 0, 0), land)
        self.assertNotIn((100, 0), land)
        self.assertIsNone(Land.of_rows(2, [*rows[:23], X + Y > 50]).one_point())

    def test_what_is_passed_stays(self):
        rows = [X > 0, Y > 0]
        land = Land.of_rows(2, rows)
        rows.append(X < 0)
        self.assertEqual(len(rows), 3)
        self.assertIn((1, 1), land)
        self.assertEqual(land, box(Y > 0, X > 0))

    def test_errors(self):
        for value in (0, 4, True, None, "1", Share(1)):
            with self.assertRaises(BadCount) as caught:
                Land.of_rows(value, [None])
            self.assertIs(caught.exception.value, value)
        for thing in (True, X, 1, None):
            with self.assertRaises(NotRow) as caught:
                Land.of_rows(1, [X > 0, thing, Y > 0])
            self.assertIs(caught.exception.thing, thing)
        for rows, k in (([X > 0, Y > 0, None], 1), ([Z > Y], 1), ([X > Z], 2)):
            with self.assertRaises(NoUnknown) as caught:
                Land.of_rows(1, rows)
            self.assertEqual(caught.exception.k, k)

    def test_has_given(self):
        rows = [X > 0, X < 5]
        asker = Asker(1, given=rows)
        told = []
        for _ in range(2):
            with self.assertRaises(HasGiven) as caught:
                asker.land(lambda ask, x: None)
            told.append(caught.exception.rows)
            self.assertEqual(told[-1], rows)
            told[-1].clear()
        self.assertEqual(asker.calls, 0)

    def test_not_truth(self):
        with self.assertRaises(NotTruth) as caught:
            Asker(1).land(lambda ask, x: 1 if ask(x[0] > 0) else True)
        self.assertEqual(caught.exception.path, ((X > 0, True),))

    def test_all_runs_are_made(self):
        asker = Asker(2)
        land = asker.land(code=lambda ask, x: ask(x[0] > 0) or ask(x[1] > 0) or ask(x[0] < -1) or True)
        self.assertEqual((asker.calls, land.is_all()), (4, True))


class InTest(Checked):

    def test_points_that_give_few_or_many(self):
        land = box(X <= 0, Y >= 0, Y < 2)
        for point in ((), [], [0], (-1,), (-5, Share(3, 2)), [0, 0, 9]):
            self.assertIs(point in land, True)
        for point in ([1], (Share(1, 10 ** 12), 0), [0, 2], [0, -1, 0]):
            self.assertIs(point in land, False)
            self.assertIs(point not in land, True)


class OperatorsTest(Checked):

    def test_put_together(self):
        reckon = (set.__and__, set.__or__, set.__sub__, set.__xor__)
        for unknowns, points, one, two in pairs(range(40)):
            for sign, own in zip(SIGNS, reckon):
                self.check_land(sign(one.land, two.land), own(one.within, two.within), points, unknowns)
            self.check_land(~one.land, set(points) - one.within, points, unknowns)
            self.check_land(one.land, one.within, points, unknowns)

    def test_compared(self):
        for unknowns, points, one, two in pairs(range(40)):
            lands = [(one.land, one.within), (two.land, two.within), (one.land & two.land, one.within & two.within),
                     (one.land | two.land, one.within | two.within), (~~one.land, one.within)]
            for left, left_points in lands:
                for right, right_points in lands:
                    for sign in (*ORDERS, operator.eq, operator.ne):
                        self.assertIs(sign(left, right), sign(left_points, right_points))

    def test_five_together(self):
        for seed in range(12):
            plans = [any_plan(seed + 100 * at, 2, 3, truth_leaf, 2) for at in range(5)]
            points = faces_of([form for plan in plans for form in forms_of(plan)], 2)
            told = [Plan(plan, 2, points) for plan in plans]
            a, b, c, d, e = [one.land for one in told]
            f, g, h, i, j = [one.within for one in told]
            self.check_land((a | b) - (c & ~d) ^ e, (f | g) - (h - i) ^ j, points, 2)
            self.assertIs(a & b <= c | d | e, f & g <= h | i | j)
            self.assertIs((a ^ b) - c == (d & e), (f ^ g) - h == (i & j))

    def test_thin_faces(self):
        half, rest = box(X > Y), box(X <= Y)
        self.assertEqual(~half, rest)
        self.assertEqual(half | rest, ALL)
        self.assertEqual(half & rest, NOWHERE)
        self.assertNotEqual(box(X >= Y) | box(X > Y), half)
        self.assertEqual(box(X >= Y) - half, box(X >= Y, Y >= X))
        self.assertEqual(box(X >= Y) ^ box(X <= Y), box(X > Y) | box(X < Y))
        self.assertIs(half < box(X >= Y), True)
        self.assertIs(box(X >= Y) <= half, False)
        self.assertIs(box(X >= 1, X <= 1, Y >= 1, Y <= 1) < box(X >= 1, X <= 1), True)

    def test_in_place(self):
        one = two = box(X > 0)
        two &= box(Y > 0)
        self.assertEqual((one, two), (box(X > 0), box(X > 0, Y > 0)))
        three = two
        three |= box(X <= 0)
        three -= box(X < 0)
        three ^= ALL
        self.assertEqual(two, box(X > 0, Y > 0))
        self.assertEqual(three, ~(box(X > 0, Y > 0) | box(X >= 0, X <= 0)))

    def test_equality_however_the_asks_were(self):
        asker = Asker(2)

        def code(ask, x):
            if ask(x[0] < x[1]):
                return ask(x[1] > 0) if ask(x[0] > -1) else ask(x[1] > 0)
            return not ask(2 * x[1] <= 0)

        self.assertEqual(asker.land(code), box(3 * Y > 0))
        self.assertEqual(asker.land(lambda ask, x: ask(x[0] > 1) or ask(x[0] < 2)), ALL)
        self.assertEqual(asker.land(lambda ask, x: ask(x[0] > 2) and ask(x[0] < 2)), NOWHERE)

    def test_other_things_are_not_equal(self):
        for other in (1, None, True, [], "land", X, X > 0, Land.of_rows(1, []), Land.of_rows(3, [])):
            self.assertIs(ALL == other, False)
            self.assertIs(ALL != other, True)
            self.assertIs(other == ALL, False)
        self.assertIs(ALL == box(), True)
        self.assertIs(ALL != box(), False)

    def test_unlike_counts(self):
        lands = [Land.of_rows(count, [X > 0]) for count in (1, 2, 3)]
        for left in lands:
            for right in lands:
                for sign in (*SIGNS, *ORDERS):
                    if left.unknowns == right.unknowns:
                        sign(left, right)
                        continue
                    with self.assertRaises(UnlikeCounts) as caught:
                        sign(left, right)
                    self.assertEqual((caught.exception.one, caught.exception.other), (left.unknowns, right.unknowns))

    def test_no_operators_with_other_things(self):
        for sign in (*SIGNS, *ORDERS):
            for other in (1, None, [], "land", True):
                with self.assertRaises(TypeError):
                    sign(ALL, other)
                with self.assertRaises(TypeError):
                    sign(other, ALL)


class OnePointTest(Checked):

    def test_all_and_none(self):
        self.assertIs(ALL.is_all(), True)
        self.assertIs(NOWHERE.is_all(), False)
        self.assertIs((~NOWHERE).is_all(), True)
        self.assertIs(box(X >= 0).is_all(), False)
        self.assertIsNone(NOWHERE.one_point())
        self.assertIsNone((~ALL).one_point())
        self.check_point(ALL.one_point())

    def test_single_points(self):
        land = box(3 * X >= 1, 3 * X <= 1, Y - X >= 7, Y - X <= 7)
        self.assertEqual(self.check_point(land.one_point())[:2], (Fraction(1, 3), Fraction(22, 3)))
        narrow = box(X > 0, X < Share(1, 10 ** 12), Y > 10 ** 12, Y < 10 ** 12 + X)
        self.assertIn(narrow.one_point(), narrow)


class SpanTest(Checked):

    def test_lands_of_plans(self):
        terms = [X, -Y + 3, 2 * X + Y, X - Y.over(3), Term.constant(4), 7, Share(-1, 2)]
        for seed in range(30):
            plan = any_plan(seed, 2, 4, truth_leaf, 3)
            land = Asker(2).land(code_of(plan))
            runs = [run for run in runs_of(plan, told_points(plan, 2)) if run.value]
            for term in terms:
                self.check_span(land.span(term), runs, term)

    def check_span(self, span, runs, term):
        if not runs:
            self.assertIsNone(span)
            return
        found = [bounds([self.row_of(ask) for ask in run.path], X - X + term) for run in runs]
        lows, highs = [low for low, _ in found], [high for _, high in found]
        low = None if None in lows else min(lows, key=lambda end: (end[0], not end[1]))
        high = None if None in highs else max(highs)
        self.assertEqual(tuple(end and (flat(end[0]), end[1]) for end in span), (low, high))
        self.assertTrue(all(end is None or type(end[0]) is Share and type(end[1]) is bool for end in span))

    def row_of(self, ask):
        form, strict, answer, _ = ask
        term = form[0] + form[1] * X + form[2] * Y
        row = term > 0 if strict else term >= 0
        return row if answer else ~row

    def test_ends(self):
        land = box(X > 0, X <= 2, Y >= X) | box(X >= 5, X <= 5, Y >= 0, Y < 9)
        self.assertEqual(land.span(X), ((Share(0), False), (Share(5), True)))
        self.assertEqual(land.span(term=Y), ((Share(0), True), None))
        self.assertEqual((~land).span(X), (None, None))
        self.assertEqual(NOWHERE.span(X), None)

    def test_no_unknown_comes_first(self):
        for land in (ALL, NOWHERE):
            with self.assertRaises(NoUnknown) as caught:
                land.span(X + Z)
            self.assertEqual(caught.exception.k, 2)
        with self.assertRaises(NoUnknown) as caught:
            Land.of_rows(1, []).span(Z - Y)
        self.assertEqual(caught.exception.k, 1)


class AwayTest(Checked):

    def check_away(self, land, unknowns, endless):
        told = land.away()
        if not endless:
            self.assertIsNone(told)
            return
        self.assertIs(type(told), tuple)
        point, direction = [self.check_point(part) for part in told]
        self.assertTrue(any(direction[:unknowns]))
        for many in (0, 1, 2, 3, 7, 10 ** 3, 10 ** 20):
            self.assertIn(shares(one + many * way for one, way in zip(point, direction)), land)

    def test_lands_of_plans(self):
        for unknowns, _, one, two in pairs(range(40)):
            for land in (one.land, two.land, one.land - two.land, one.land & two.land):
                spans = [land.span(Term.unknown(k)) for k in range(unknowns)]
                self.check_away(land, unknowns, any(span is not None and None in span for span in spans))

    def test_kinds(self):
        closed = box(X >= 0, Y >= 0, X + Y <= 1)
        self.check_away(closed, 2, False)
        self.check_away(NOWHERE, 2, False)
        self.check_away(ALL, 2, True)
        self.check_away(~closed, 2, True)
        self.check_away(closed | box(X >= 9, X <= 9, Y < -3), 2, True)
        self.check_away(box(X > Y, X < Y + 1), 2, True)
        self.check_away(box(X > Y, X < Y), 2, False)
        self.check_away(box(X >= 3 * Y, X <= 3 * Y), 2, True)
        self.check_away(box(X > 0, X < 1, unknowns=1), 1, False)
        self.check_away(box(X < 0, unknowns=1), 1, True)
        self.check_away(box(X >= Y, X <= Y, Y >= Z, Z >= X, unknowns=3), 3, True)


if __name__ == "__main__":
    unittest.main()
