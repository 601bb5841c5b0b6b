"""Points 9, 10 and 11: making terms, reckoning with them, comparing them, their worth at a point."""

import operator
import unittest
from fractions import Fraction

from lessways.errors import NoShare, NotStraight, NoUnknown
from lessways.rows import Row
from lessways.shares import Share
from lessways.terms import Term
from tests.helpers import Deferred, fields

X, Y, Z = [Term.unknown(k) for k in range(3)]
NUMBERS = (0, 1, -2, 10 ** 12 - 1, Share(0), Share(1, 3), Share(-5, 4), Share(7))
POINTS = ((), (1,), [2, -3], (Share(1, 2), 0, Share(-7, 3)), [0, 0, 0], (10 ** 12 - 1, Share(1, 10 ** 12 - 1), -1))


def terms():
    return [X, Y, Z, Term.constant(0), Term.constant(Share(-1, 2)), X + Y, 2 * X - 3 * Z + 4,
            Share(1, 3) * Y - Share(5, 6), X - X]


class TermTest(unittest.TestCase):

    def check(self, term, right):
        """That a term is one, of shares, with these four fields."""
        self.assertIs(type(term), Term)
        self.assertIs(type(term.times), tuple)
        self.assertEqual(len(term.times), 3)
        for share in (term.number, *term.times):
            self.assertIs(type(share), Share)
        self.assertEqual(fields(term), right)

    def test_unknown(self):
        for k in range(3):
            right = [Fraction(0)] * 4
            right[k + 1] = Fraction(1)
            self.check(Term.unknown(k), right)
            self.check(Term.unknown(k=k), right)

    def test_no_unknown(self):
        for k in (-1, 3, 10 ** 12, True, False, None, "0", "", 1.0, [0], [], (1,), {}, {0: 1}, Share(0), Share(1),
                  Share(2), Share(1, 2), Term.constant(1), X, object()):
            with self.assertRaises(NoUnknown) as caught:
                Term.unknown(k)
            self.assertIs(caught.exception.k, k)

    def test_constant(self):
        for number in NUMBERS:
            share = number + Share(0)
            self.check(Term.constant(number), [Fraction(share.top, share.bottom), 0, 0, 0])
            self.check(Term.constant(number=number), [Fraction(share.top, share.bottom), 0, 0, 0])

    def test_sums_and_differences_of_terms(self):
        for sign in (operator.add, operator.sub):
            for one in terms():
                for other in terms():
                    self.check(sign(one, other), [sign(a, b) for a, b in zip(fields(one), fields(other))])

    def test_sums_and_differences_with_numbers(self):
        for sign in (operator.add, operator.sub):
            for term in terms():
                for number in NUMBERS:
                    alone = fields(Term.constant(number))
                    self.check(sign(term, number), [sign(a, b) for a, b in zip(fields(term), alone)])
                    self.check(sign(number, term), [sign(b, a) for a, b in zip(fields(term), alone)])

    def test_multiples(self):
        for term in terms():
            for number in NUMBERS:
                by = fields(Term.constant(number))[0]
                self.check(term * number, [by * a for a in fields(term)])
                self.check(number * term, [by * a for a in fields(term)])
            self.check(-term, [-a for a in fields(term)])

    def test_term_times_term(self):
        for one in terms():
            for other in [*terms(), one]:
                old = (fields(one), fields(other))
                with self.assertRaises(NotStraight) as caught:
                    one * other
                self.assertIs(caught.exception.left, one)
                self.assertIs(caught.exception.right, other)
                name = one
                with self.assertRaises(NotStraight) as caught:
                    name *= other
                self.assertIs(caught.exception.left, one)
                self.assertIs(caught.exception.right, other)
                self.assertIs(name, one)
                self.assertEqual((fields(one), fields(other)), old)

    def test_over(self):
        for term in terms():
            old = fields(term)
            for number in NUMBERS:
                by = fields(Term.constant(number))[0]
                if by == 0:
                    with self.assertRaises(NoShare) as caught:
                        term.over(number)
                    self.assertIs(type(caught.exception.top), int)
                    self.assertEqual(caught.exception.top, 0)
                else:
                    self.check(term.over(number), [a / by for a in fields(term)])
                    self.check(term.over(number=number), [a / by for a in fields(term)])
                self.check(term, old)

    def test_at(self):
        for term in terms():
            for point in POINTS:
                worths = [fields(Term.constant(worth))[0] for worth in point] + [0, 0, 0]
                number, *times = fields(term)
                right = number + sum(a * b for a, b in zip(times, worths))
                for told in (term.at(point), term.at(point=list(point)), term.at(tuple(point))):
                    self.assertIs(type(told), Share)
                    self.assertEqual(Fraction(told.top, told.bottom), right)

    def test_at_changes_no_point(self):
        point = [1, Share(1, 2), -3]
        (X + 2 * Y - Z).at(point)
        self.assertEqual(point, [1, Share(1, 2), -3])

    def test_equal(self):
        for one in terms():
            for other in terms():
                self.assertIs(one == other, fields(one) == fields(other))
                self.assertIs(one != other, fields(one) != fields(other))
        self.assertIs(X + Y == Y + X, True)
        self.assertIs(X == 2 * X, False)

    def test_equal_to_no_other_object(self):
        for term in (Term.constant(1), Term.constant(0), X):
            for other in (1, 0, Share(1), Share(0), True, False, None, "x", [], (), [X], (X,), X > 0, object()):
                self.assertIs(term == other, False)
                self.assertIs(other == term, False)
                self.assertIs(term != other, True)
                self.assertIs(other != term, True)

    def test_in_place(self):
        for sign in (operator.iadd, operator.isub, operator.imul):
            for term in terms():
                old = fields(term)
                self.assertIsNot(sign(term, 0), term)
                self.assertIsNot(sign(term, 1), term)
                self.check(term, old)
        name = kept = X + 1
        name += Y
        name -= 3
        name *= 2
        self.check(name, [-4, 2, 2, 0])
        self.check(kept, [1, 1, 0, 0])

    def test_comparisons_tell_rows(self):
        for sign in (operator.lt, operator.le, operator.gt, operator.ge):
            for term in terms():
                for other in [*NUMBERS, *terms()]:
                    self.assertIs(type(sign(term, other)), Row)
                    self.assertIs(type(sign(other, term)), Row)

    def test_other_things_are_left_to_themselves(self):
        for sign in (operator.add, operator.sub, operator.mul, operator.lt, operator.le, operator.gt, operator.ge):
            self.assertEqual(sign(X, Deferred()), "told by the other side")
            self.assertEqual(sign(Deferred(), X), "told by the other side")

    def test_no_operators_with_other_things(self):
        for sign in (operator.add, operator.sub, operator.mul, operator.lt, operator.le, operator.gt, operator.ge):
            for other in (True, None, "1", [1], 1.5):
                with self.assertRaises(TypeError):
                    sign(X, other)
                with self.assertRaises(TypeError):
                    sign(other, X)


if __name__ == "__main__":
    unittest.main()
