"""Points 12 and 13: rows, made as callers make them, by comparing terms."""

import operator
import unittest
from functools import reduce
from itertools import product
from math import gcd

from lessways.rows import Row
from lessways.shares import Share
from lessways.terms import Term
from tests.helpers import fields

X, Y, Z = [Term.unknown(k) for k in range(3)]
GREAT = 10 ** 12 - 1
SIGNS = (operator.lt, operator.le, operator.gt, operator.ge)
WORTHS = (-1, 0, Share(1, 2), 1, 2)


def constant(number):
    return Term.constant(number)


def integers(row):
    """The four integers that a row is kept in."""
    told = [row.term.number, *row.term.times]
    for share in told:
        assert type(share) is Share and share.bottom == 1, str(share)
    return [share.top for share in told]


def compared():
    """Pairs of a term and of what it is compared with."""
    return [(X, Y), (X, 2 * Y), (2 * X, 4 * Y), (X, 0), (X, Share(1, 3)), (Share(3, 4) * X - Share(5, 6) * Y, Z + 1),
            (X, X), (X + 1, X), (X, X + 1), (constant(4), 6), (constant(0), 0), (constant(Share(1, 2)), constant(3)),
            (GREAT * X, Share(1, GREAT) * Y - GREAT), (6 * X + 10 * Y, -15 * Z), (X + Y + Z, Share(-7, 2))]


def one_form(difference):
    """The integers of the one form of a difference, reckoned in another way."""
    bottoms = reduce(lambda a, b: a * b // gcd(a, b), [share.denominator for share in difference])
    whole = [int(share * bottoms) for share in difference]
    common = reduce(gcd, whole)
    return whole if common == 0 else [number // common for number in whole]


class RowFormTest(unittest.TestCase):

    def check(self, row, whole, strict):
        self.assertIs(type(row), Row)
        self.assertIs(type(row.term), Term)
        self.assertEqual(integers(row), whole)
        self.assertIs(row.strict, strict)

    def test_what_each_comparison_says(self):
        for one, other in compared():
            alone = other if isinstance(other, Term) else constant(other)
            up = one_form([a - b for a, b in zip(fields(one), fields(alone))])
            down = [-number for number in up]
            self.check(one > other, up, True)
            self.check(one >= other, up, False)
            self.check(one < other, down, True)
            self.check(one <= other, down, False)
            self.check(other > one, down, True)
            self.check(other >= one, down, False)
            self.check(other < one, up, True)
            self.check(other <= one, up, False)

    def test_told(self):
        self.check(X > 2 * Y, [0, 1, -2, 0], True)
        self.check(X < 2 * Y, [0, -1, 2, 0], True)
        self.check(Share(1, 2) * X >= Share(1, 3) * Y, [0, 3, -2, 0], False)
        self.check(4 * X + 6 <= 10 * Z, [-3, -2, 0, 5], False)
        self.check(Share(2, 3) * X + Share(4, 9) > 0, [2, 3, 0, 0], True)
        self.check(3 > X, [3, -1, 0, 0], True)
        self.check(Share(3, 2) <= X, [-3, 2, 0, 0], False)

    def test_one_form_of_the_same_row(self):
        same = [X > 2 * Y, 2 * Y < X, X - 2 * Y > 0, 0 < X - 2 * Y, 3 * X > 6 * Y, X.over(2) > Y, Y < X.over(2),
                X * Share(1, 7) - Y * Share(2, 7) > 0, -X < -2 * Y, X + Z + 5 > 2 * Y + Z + 5, GREAT * X > 2 * GREAT * Y]
        for one, other in product(same, same):
            self.assertIs(one == other, True)
            self.assertIs(one != other, False)
            self.assertIs(one.term == other.term, True)

    def test_turned_round_is_another_row(self):
        for one, other in ((X > Y, X < Y), (X > Y, Y > X), (X >= Y, X <= Y), (X > 1, X < 1), (X > 1, X > -1)):
            self.assertIs(one == other, False)
            self.assertIs(one != other, True)
            self.assertIs(other == one, False)

    def test_strict_and_not(self):
        for one, other in compared():
            self.assertIs((one > other) == (one >= other), False)
            self.assertIs((one < other) != (one <= other), True)
            self.assertIs((one > other).term == (one >= other).term, True)

    def test_without_unknowns(self):
        self.check(constant(5) > 3, [1, 0, 0, 0], True)
        self.check(constant(3) > 5, [-1, 0, 0, 0], True)
        self.check(constant(Share(7, 3)) >= 0, [1, 0, 0, 0], False)
        self.check(X - 6 <= X, [1, 0, 0, 0], False)
        self.check(X >= X + Share(9, 2), [-1, 0, 0, 0], False)

    def test_the_term_that_is_nought(self):
        self.check(X > X, [0, 0, 0, 0], True)
        self.check(X >= X, [0, 0, 0, 0], False)
        self.check(constant(0) < 0, [0, 0, 0, 0], True)
        self.check(0 * Y <= 0, [0, 0, 0, 0], False)
        self.assertIs((X > X) == (Y > Y), True)
        self.assertIs((X > X) == (Y < Y), True)

    def test_great_numbers(self):
        self.check(GREAT * X > Share(1, GREAT), [-1, GREAT * GREAT, 0, 0], True)
        high, low = 3 ** 200, 7 ** 150
        self.check(X * (high * 10) >= Share(low, 1) * 15 * Y, [0, 2 * 3 ** 199, -low, 0], False)

    def test_terms_are_not_changed(self):
        left, right = 4 * X + 2, 6 * Y
        for sign in SIGNS:
            sign(left, right)
            self.assertEqual(fields(left), [2, 4, 0, 0])
            self.assertEqual(fields(right), [0, 0, 6, 0])


class RowOperatorsTest(unittest.TestCase):

    def rows(self):
        return [sign(one, other) for sign in SIGNS for one, other in compared()]

    def test_contrary_is_kept_so(self):
        for row in self.rows():
            contrary = ~row
            self.assertIs(type(contrary), Row)
            self.assertEqual(integers(contrary), [-number for number in integers(row)])
            self.assertIs(contrary.strict, not row.strict)

    def test_contrary_told(self):
        self.assertIs(~(X > Y) == (X <= Y), True)
        self.assertIs(~(X >= Y) == (X < Y), True)
        self.assertIs(~(X < Y) == (X >= Y), True)
        self.assertIs(~(X <= Y) == (X > Y), True)
        self.assertIs(~(X > X) == (X >= X), True)
        self.assertIs(~(constant(2) > 1) == (constant(-1) >= 0), True)

    def test_contrary_of_the_contrary(self):
        for row in self.rows():
            kept = (integers(row), row.strict)
            self.assertIs(~~row == row, True)
            self.assertIs(~row == row, False)
            self.assertIsNot(~~row, row)
            self.assertEqual((integers(row), row.strict), kept)

    def test_contrary_holds_just_where_the_row_does_not(self):
        for row in self.rows():
            for point in product(WORTHS, WORTHS, (0, 1, -4)):
                self.assertIs((~row).holds(point), not row.holds(point))

    def test_equal_just_if_term_and_strictness_are(self):
        for one, other in product(self.rows(), self.rows()):
            same = integers(one) == integers(other) and one.strict == other.strict
            self.assertIs(one == other, same)
            self.assertIs(one != other, not same)

    def test_equal_to_no_other_object(self):
        for row in (X > Y, X >= X, constant(1) > 0):
            for other in (True, False, None, 0, 1, "x > y", Share(1), row.term, X, [], [row], (), (row,),
                          (row.term, row.strict), object(), Row):
                self.assertIs(row == other, False)
                self.assertIs(other == row, False)
                self.assertIs(row != other, True)
                self.assertIs(other != row, True)


class RowHoldsTest(unittest.TestCase):

    def test_holds_by_the_comparison(self):
        for one, other in compared():
            alone = other if isinstance(other, Term) else constant(other)
            for point in product(WORTHS, WORTHS, (0, Share(-7, 2), 3)):
                left, right = one.at(point), alone.at(point)
                for sign in SIGNS:
                    told = sign(left, right)
                    self.assertIs(sign(one, other).holds(point), told)
                    self.assertIs(sign(other, one).holds(point), sign(right, left))
                    self.assertIs(sign(one, other).holds(point=list(point)), told)

    def test_on_the_edge(self):
        for point in ((2, 1), [2, 1], (Share(1), Share(1, 2)), [0, 0, 9], (), [], (0,), (Share(-1, 2), Share(-1, 4), 1)):
            self.assertIs((X > 2 * Y).holds(point), False)
            self.assertIs((X < 2 * Y).holds(point), False)
            self.assertIs((X >= 2 * Y).holds(point), True)
            self.assertIs((X <= 2 * Y).holds(point), True)

    def test_beside_the_edge(self):
        near = Share(1, GREAT) * Share(1, GREAT)
        self.assertIs((X > 2 * Y).holds((2 + near, 1)), True)
        self.assertIs((X > 2 * Y).holds((2 - near, 1)), False)
        self.assertIs((X >= 2 * Y).holds((2 - near, 1)), False)
        self.assertIs((X < 2 * Y).holds([2 - near, 1]), True)

    def test_fewer_worths_than_unknowns(self):
        row = X - Y + 2 * Z > 1
        self.assertIs(row.holds(()), False)
        self.assertIs(row.holds([]), False)
        self.assertIs(row.holds((2,)), True)
        self.assertIs(row.holds([1]), False)
        self.assertIs(row.holds((0, -2)), True)
        self.assertIs(row.holds([0, -1]), False)
        self.assertIs(row.holds((0, 0, 1)), True)
        self.assertIs((Z >= 0).holds((5, 5)), True)
        self.assertIs((Z > 0).holds((5, 5)), False)

    def test_more_worths_than_unknowns_in_the_row(self):
        self.assertIs((X > 0).holds((1, -5, Share(-7, 3))), True)
        self.assertIs((X > 0).holds((-1, 5, Share(7, 3))), False)

    def test_without_unknowns(self):
        for point in ((), (1,), [Share(-5, 3), 7], (9, 9, 9)):
            self.assertIs((constant(1) > 0).holds(point), True)
            self.assertIs((constant(-1) >= 0).holds(point), False)
            self.assertIs((X - X > 0).holds(point), False)
            self.assertIs((X - X >= 0).holds(point), True)
            self.assertIs((X + 1 > X).holds(point), True)
            self.assertIs((X + 1 <= X).holds(point), False)

    def test_the_point_is_not_changed(self):
        point = [1, Share(1, 2)]
        (X + Y + Z > 0).holds(point)
        self.assertEqual(point, [1, Share(1, 2)])
        point.append(-9)
        self.assertIs((X + Y + Z > 0).holds(point), False)


if __name__ == "__main__":
    unittest.main()
