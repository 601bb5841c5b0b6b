"""Point 16: how great and how small a term can be where rows hold, and where it grows without end."""

import unittest
from fractions import Fraction

from lessways.bounds import endless, greatest, least
from lessways.errors import Nothing
from lessways.shares import Share
from lessways.terms import Term
from tests.helpers import fields
from tests.reckoned import bounds
from tests.rowlists import GREAT, HOLD, NEAR, NOWHERE, X, Y, Z, any_rows

TINY = Fraction(1, 10 ** 12)
STEPS = (0, 1, 2, 3, 10 ** 6)


def fraction(share):
    return Fraction(share.top, share.bottom)


def worth(term, point):
    number, *times = fields(term)
    return number + sum(a * b for a, b in zip(times, point))


class BoundsTest(unittest.TestCase):

    def pair(self, told):
        """A told pair with a fraction; None as it is."""
        if told is None:
            return None
        self.assertIs(type(told), tuple)
        self.assertEqual([type(thing) for thing in told], [Share, bool])
        return fraction(told[0]), told[1]

    def check_endless(self, rows, term, told):
        self.assertIs(type(told), tuple)
        self.assertEqual([type(part) for part in told], [tuple, tuple])
        point, direction = [[fraction(share) for share in part] for part in told]
        self.assertEqual((len(point), len(direction)), (3, 3))
        self.assertEqual({type(share) for part in told for share in part}, {Share})
        step = worth(term, [a + b for a, b in zip(point, direction)]) - worth(term, point)
        self.assertGreater(step, 0)
        for n in STEPS:
            there = [a + n * b for a, b in zip(point, direction)]
            self.assertEqual(worth(term, there), worth(term, point) + n * step)
            for row in rows:
                value = worth(row.term, there)
                self.assertTrue(value > 0 or value == 0 and not row.strict)

    def check(self, rows, term):
        """The pair (least, greatest), with fractions; what endless tells goes with it."""
        low, high = self.pair(least(rows, term)), self.pair(greatest(rows, term))
        alone = term if isinstance(term, Term) else Term.constant(term)
        for bound, turned in ((high, term), (low, -term)):
            told = endless(rows, turned)
            self.assertIs(told is None, bound is not None)
            if told is not None:
                self.check_endless(rows, alone if turned is term else -alone, told)
        return low, high

    def test_reached_and_not(self):
        self.assertEqual(self.check([X <= 3], X), (None, (3, True)))
        self.assertEqual(self.check([X < 3], X), (None, (3, False)))
        self.assertEqual(self.check([X >= Share(-1, 2)], X), ((Fraction(-1, 2), True), None))
        self.assertEqual(self.check([X > Share(-1, 2), X < 3], X), ((Fraction(-1, 2), False), (3, False)))
        self.assertEqual(self.check([X > 0, X <= 3, X < 4], 2 * X + 1), ((1, False), (7, True)))

    def test_a_strict_row_on_the_face(self):
        square = [X >= 0, X <= 1, Y >= 0, Y <= 1]
        self.assertEqual(self.check(square, X + Y), ((0, True), (2, True)))
        self.assertEqual(self.check([*square, X < 1], X + Y), ((0, True), (2, False)))
        self.assertEqual(self.check([*square, X < 1], Y), ((0, True), (1, True)))
        self.assertEqual(self.check([*square, X > Y], Y), ((0, True), (1, False)))
        self.assertEqual(self.check([*square, X > Y], X), ((0, False), (1, True)))
        self.assertEqual(self.check([*square, X > 0, Y > 0], X), ((0, False), (1, True)))
        self.assertEqual(self.check([*square, X + Y > 2 - NEAR], X), ((1 - TINY, False), (1, True)))

    def test_without_end(self):
        self.assertEqual(self.check([], X), (None, None))
        self.assertEqual(self.check([], X - Y + 3 * Z - 1), (None, None))
        self.assertEqual(self.check([Y > 0, Y < 1], X + Y), (None, None))
        self.assertEqual(self.check([X > 0, Y > 0], X - Y), (None, None))
        self.assertEqual(self.check([X > 0, Y > X], X - Y), (None, (0, False)))
        rows = [X > GREAT * Y, Y > GREAT * Z, Z > NEAR]
        self.assertEqual(self.check(rows, X), ((GREAT * GREAT * TINY, False), None))
        self.assertEqual(self.check([X >= Y, X <= Y, Y >= Z, Y <= Z], X - Z), ((0, True), (0, True)))
        self.assertEqual(self.check([X >= Y, X <= Y], X - Z), (None, None))

    def test_a_term_that_a_row_bounds(self):
        self.assertEqual(self.check([2 * X - 3 * Y <= 5], 4 * X - 6 * Y), (None, (10, True)))
        self.assertEqual(self.check([2 * X - 3 * Y < 5], 6 * Y - 4 * X), ((-10, False), None))
        self.assertEqual(self.check([X + Y + Z < 1, X > 0, Y > 0, Z > 0], X + 2 * Y + 3 * Z), ((0, False), (3, False)))

    def test_a_number_alone(self):
        for rows in HOLD:
            for number in (0, 7, -GREAT, Share(-3, 4), Term.constant(Share(1, 3)), X - X):
                alone = number if isinstance(number, Term) else Term.constant(number)
                right = (fields(alone)[0], True)
                self.assertEqual(self.check(rows, number), (right, right))

    def test_at_a_row_of_the_list(self):
        for rows in HOLD:
            for row in rows:
                low, high = self.check(rows, row.term)
                self.assertGreaterEqual(low, (0, False))
                if low[0] == 0 and row.strict:
                    self.assertIs(low[1], False)

    def test_turned_moved_and_multiplied(self):
        for seed in range(40):
            rows = any_rows(seed, 5, 3)
            if bounds(rows, X) is None:
                continue
            for term in (X, X - 2 * Y, X + Y - 3 * Z):
                low, high = self.check(rows, term)
                for by, add in ((-1, 0), (1, Share(5, 3)), (Share(7, 2), 0), (-GREAT, -1)):
                    moved = [bound and (bound[0] * fraction(by + Share(0)) + fraction(add + Share(0)), bound[1])
                             for bound in (low, high)]
                    right = tuple(moved if by > 0 else moved[::-1])
                    self.assertEqual(self.check(rows, term * by + add), right)

    def test_as_reckoned_in_another_way(self):
        for seed in range(150):
            rows = any_rows(seed, seed % 8, 3 if seed % 4 else GREAT)
            for term in (X, X - Y, Share(1, 3) * Y + Z - 7, *[row.term for row in rows[:2]]):
                right = bounds(rows, term)
                if right is None:
                    for told in (greatest, least, endless):
                        self.assertRaises(Nothing, told, rows, term)
                else:
                    self.assertEqual(self.check(rows, term), right)

    def test_many_rows(self):
        for seed in range(0, 60, 6):
            rows = any_rows(seed, 24, GREAT)
            for term in (X, Y - GREAT * Z):
                self.check(rows, term)

    def test_nothing(self):
        for rows in NOWHERE:
            for told in (greatest, least, endless):
                for term in (X, X - Y + Z, 0, Share(1, 2), Term.constant(1)):
                    with self.assertRaises(Nothing) as caught:
                        told(rows, term)
                    self.assertIs(type(caught.exception.rows), list)
                    self.assertIsNot(caught.exception.rows, rows)
                    self.assertEqual(len(caught.exception.rows), len(rows))
                    self.assertTrue(all(one is other for one, other in zip(caught.exception.rows, rows)))
                    caught.exception.rows.clear()
                    self.assertTrue(rows)

    def test_by_name(self):
        rows = [X > 0, X <= 2]
        self.assertEqual(self.pair(greatest(term=X, rows=rows)), (2, True))
        self.assertEqual(self.pair(least(term=X, rows=rows)), (0, False))
        self.assertIsNone(endless(term=X, rows=rows))
        self.check_endless(rows, Y, endless(term=Y, rows=rows))

    def test_what_is_passed_is_not_changed(self):
        rows = [X > 0, Y >= X, Z < 2 * Y - Share(1, 3)]
        term = X - 2 * Z + 4
        old = (list(rows), [(fields(row.term), row.strict) for row in rows], fields(term))
        for told in (greatest, least, endless):
            told(rows, term)
            self.assertTrue(all(one is other for one, other in zip(rows, old[0])))
            self.assertEqual((old[0], [(fields(row.term), row.strict) for row in rows], fields(term)), old)

    def test_a_thin_gap_and_great_numbers(self):
        rows = [X > 1, X < 1 + NEAR, Y >= GREAT * X, Y <= GREAT * X]
        self.assertEqual(self.check(rows, X), ((1, False), (1 + TINY, False)))
        self.assertEqual(self.check(rows, Y), ((GREAT, False), (GREAT * (1 + TINY), False)))
        self.assertEqual(self.check(rows, Y - GREAT * X), ((0, True), (0, True)))
        self.assertEqual(self.check(rows, Y + Z), (None, None))


if __name__ == "__main__":
    unittest.main()
