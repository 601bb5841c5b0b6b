"""Points 14 and 15: a point at which rows hold, or weights that show that there is none."""

import time
import unittest
from fractions import Fraction

from lessways.mending import point_of, weights_of
from lessways.shares import Share
from lessways.terms import Term
from tests.helpers import fields
from tests.reckoned import bounds
from tests.rowlists import GREAT, HOLD, NEAR, NOWHERE, X, Y, Z, any_rows


def worth(row, point):
    """What a row's term is at a point of shares, by the test's own fractions."""
    number, *times = fields(row.term)
    return number + sum(a * Fraction(share.top, share.bottom) for a, share in zip(times, point))


class Checked(unittest.TestCase):

    def check_point(self, rows, point):
        self.assertIs(type(point), tuple)
        self.assertEqual([type(share) for share in point], [Share, Share, Share])
        for row in rows:
            told = worth(row, point)
            self.assertTrue(told > 0 or told == 0 and not row.strict)

    def check_weights(self, rows, weights):
        self.assertIs(type(weights), list)
        self.assertEqual([type(weight) for weight in weights], [int] * len(rows))
        self.assertTrue(all(weight >= 0 for weight in weights))
        added = [sum(weight * fields(row.term)[k] for weight, row in zip(weights, rows)) for k in range(4)]
        self.assertEqual(added[1:], [0, 0, 0])
        strict = any(row.strict and weight > 0 for weight, row in zip(weights, rows))
        self.assertTrue(added[0] < 0 or added[0] == 0 and strict)

    def check(self, rows):
        """Whether rows hold together; what is told of them fits."""
        point, weights = point_of(rows), weights_of(rows)
        self.assertIs(point is None, weights is not None)
        if weights is None:
            self.check_point(rows, point)
            return True
        self.check_weights(rows, weights)
        return False


class MendingTest(Checked):

    def test_rows_that_hold(self):
        for rows in HOLD:
            self.assertTrue(self.check(rows))

    def test_rows_that_hold_nowhere(self):
        for rows in NOWHERE:
            self.assertFalse(self.check(rows))

    def test_another_sequence_and_twice(self):
        for lists, right in ((HOLD, True), (NOWHERE, False)):
            for rows in lists:
                for changed in (rows[::-1], rows[1:] + rows[:1], [*rows, *rows[:3]], rows[-2:] + rows):
                    self.assertIs(self.check(changed), right)

    def test_by_name(self):
        self.check_point([X > 2], point_of(rows=[X > 2]))
        self.check_weights([X > 2, X < 2], weights_of(rows=[X > 2, X < 2]))
        self.assertIsNone(point_of(rows=[X > 2, X < 2]))
        self.assertIsNone(weights_of(rows=[X > 2]))

    def test_no_rows(self):
        self.check_point([], point_of([]))
        self.assertIsNone(weights_of([]))

    def test_a_row_with_its_contrary(self):
        for row in (X > 0, X >= Y, 2 * X - 3 * Y > Z + Share(1, 7), Term.constant(0) > 0, Term.constant(1) >= 0):
            self.assertFalse(self.check([row, ~row]))
            self.assertFalse(self.check([~row, X > 7, row, row]))

    def test_rows_without_unknowns(self):
        for number in (-1, -NEAR, 0, NEAR, Share(5, 3), GREAT):
            term = Term.constant(number)
            self.assertIs(self.check([term > 0]), number > 0)
            self.assertIs(self.check([term >= 0]), number >= 0)
            self.assertIs(self.check([X > Y, term > 0, Y > X - 1]), number > 0)
            self.assertIs(self.check([X > Y, Y > X - 1, term >= 0]), number >= 0)

    def test_the_weights_of_rows_that_do_no_harm_are_0(self):
        self.assertEqual(weights_of([Z > 1, X > 0, Y > 5, X <= 0]), [0, 1, 0, 1])
        self.assertEqual(weights_of([Z > 1, Term.constant(-3) >= 0]), [0, 1])

    def test_a_thin_gap(self):
        for term in (X, X - Y, 3 * X - GREAT * Y + Share(1, GREAT) * Z):
            self.assertTrue(self.check([term > 0, term < NEAR]))
            self.assertTrue(self.check([term >= 0, term <= 0, Y > 5]))
            self.assertFalse(self.check([term > NEAR, term <= NEAR]))
            self.assertFalse(self.check([term >= NEAR, term <= 0]))
            self.assertTrue(self.check([term > 1, term < 1 + NEAR * NEAR]))

    def test_rows_through_one_point(self):
        """Rows whose sum under weights is nought: they hold together until one of them is strict or moved."""
        point = (Share(7, 3), -GREAT, NEAR)
        turned = [X - 2 * Y + Z, 3 * X + Y, -Y - 4 * Z]
        last = -2 * turned[0] - Share(1, 3) * turned[1] - 5 * turned[2]
        terms = [term - term.at(point) for term in (*turned, last)]
        self.assertTrue(self.check([term >= 0 for term in terms]))
        for at in range(4):
            bare = [term >= 0 for term in terms]
            self.assertFalse(self.check(bare[:at] + [terms[at] > 0] + bare[at + 1:]))
            self.assertFalse(self.check(bare[:at] + [terms[at] >= NEAR] + bare[at + 1:]))
            self.assertTrue(self.check(bare[:at] + [terms[at] >= -NEAR] + bare[at + 1:]))
            self.assertTrue(self.check(bare[:at] + [terms[at] > -NEAR] + bare[at + 1:]))
            self.assertTrue(self.check(bare[:at] + bare[at + 1:]))
        self.assertFalse(self.check([term > 0 for term in terms]))

    def test_just_one_point(self):
        point = (Share(33, 28), Share(-5, 7), NEAR)
        terms = [term - term.at(point) for term in (X + Y + Z, X - 2 * Y, 3 * Z - GREAT * X)]
        rows = [term >= 0 for term in terms] + [term <= 0 for term in terms]
        for order in (rows, rows[::-1], rows[::2] + rows[1::2]):
            self.assertEqual(point_of(order), point)
            self.assertTrue(self.check(order))
            for row in order:
                self.assertFalse(self.check([row.term > 0, *order]))
                self.assertFalse(self.check([*order, row.term >= NEAR]))

    def test_as_reckoned_in_another_way(self):
        for seed in range(240):
            rows = any_rows(seed, seed % 8, 3 if seed % 4 else GREAT)
            self.assertIs(self.check(rows), bounds(rows, X) is not None)

    def test_many_rows_of_great_numbers(self):
        start = time.process_time()
        for seed in range(60):
            self.check(any_rows(seed, 24, GREAT))
        # 120 answers, each of which may take a second or so at the very most.
        self.assertLess(time.process_time() - start, 60)

    def test_many_rows_that_say_nothing_new(self):
        rows = [X * k + Y * (12 - k) <= 1000 + k for k in range(1, 12)] + [X <= 10 ** 9 + k for k in range(11)]
        self.assertTrue(self.check([*rows, X > 3, Y > 4]))
        self.assertFalse(self.check([*rows, X > 500, Y > 500]))

    def test_what_is_passed_is_not_changed(self):
        for rows in HOLD + NOWHERE:
            old = list(rows)
            kept = [(fields(row.term), row.strict) for row in rows]
            point_of(rows)
            weights_of(rows)
            self.assertEqual(len(rows), len(old))
            for row, other, told in zip(rows, old, kept):
                self.assertIs(row, other)
                self.assertEqual((fields(row.term), row.strict), told)

    def test_what_is_told_is_new(self):
        rows = [X > 0, X + Y < 0, Y >= 0]
        weights = weights_of(rows)
        weights.clear()
        self.check_weights(rows, weights_of(rows))
        self.assertIsNot(weights_of(rows), weights_of(rows))
        rows.append(X > 5)
        self.check_weights(rows, weights_of(rows))
        del rows[1]
        self.assertTrue(self.check(rows))

    def test_what_is_told_can_be_handed_again(self):
        rows = [X * GREAT > Y * (GREAT - 1) + NEAR, Y > Z.over(GREAT), Z > Share(GREAT, 7)]
        for at in range(6):
            point = point_of(rows)
            self.check_point(rows, point)
            rows = [*rows, X < point[0], Y > point[1] * Share(1, GREAT) * at]
            if not self.check(rows):
                break


if __name__ == "__main__":
    unittest.main()
