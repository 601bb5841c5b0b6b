"""Points 7 and 8: shares. Python's own fractions tell what is right."""

import operator
import unittest
from fractions import Fraction
from math import gcd

from lessways.errors import LessError, NoShare
from lessways.shares import Share
from lessways.terms import Term
from tests.helpers import Deferred

GREAT = 10 ** 12 - 1
TOPS = (0, 1, -1, 2, 3, -4, 6, -12, 35, 999, GREAT, -GREAT, GREAT - 1, 10 ** 11, 7 * 10 ** 30, -(3 ** 90))
BOTTOMS = (1, -1, 2, -2, 3, 4, -6, 12, 35, GREAT, -GREAT, GREAT - 1, 2 ** 80, -(3 ** 88))
SMALL = ((0, 1), (1, 1), (-1, 1), (1, 2), (-1, 2), (2, 4), (3, -4), (7, 3), (-7, 3), (GREAT, GREAT - 1),
         (GREAT - 1, GREAT), (-GREAT, 7), (GREAT, 1), (1, GREAT), (12, -6))
INTEGERS = (0, 1, -1, 2, -2, 7, 12, GREAT, -GREAT, 10 ** 40)
ARITHMETIC = (operator.add, operator.sub, operator.mul)
IN_PLACE = (operator.iadd, operator.isub, operator.imul)
COMPARISONS = (operator.lt, operator.le, operator.gt, operator.ge, operator.eq, operator.ne)


class AlwaysEqual:
    """An object that calls itself equal to everything."""

    def __eq__(self, other):
        return True


def others():
    """Objects that no share is equal to, though some of them are near to 1 or to Share(1)."""
    term = Term.constant(1)
    return [True, False, None, "1", "", "1/1", b"1", [], [1], [Share(1)], (), (1,), (1, 1), (Share(1),), {}, {1: 1},
            {1}, 1.0, 0.0, float("nan"), 1 + 0j, Fraction(1), Fraction(1, 2), object(), Share, int, term,
            term > 0, NoShare(1)]


class ShareTest(unittest.TestCase):

    def check(self, share, fraction, note=None):
        """That a share is a fraction, and kept as the document says."""
        self.assertIs(type(share), Share, note)
        self.assertIs(type(share.top), int, note)
        self.assertIs(type(share.bottom), int, note)
        self.assertEqual((share.top, share.bottom), (fraction.numerator, fraction.denominator), note)

    def test_lowest_terms(self):
        for top in TOPS:
            for bottom in BOTTOMS:
                share = Share(top, bottom)
                self.check(share, Fraction(top, bottom), (top, bottom))
                self.assertGreater(share.bottom, 0)
                self.assertEqual(gcd(share.top, share.bottom), 1)

    def test_small_ones(self):
        for top in range(-13, 14):
            for bottom in range(-13, 14):
                if bottom != 0:
                    self.check(Share(top, bottom), Fraction(top, bottom), (top, bottom))

    def test_told(self):
        for top, bottom, told in ((6, 4, (3, 2)), (6, -4, (-3, 2)), (-6, -4, (3, 2)), (0, -5, (0, 1)), (0, 1, (0, 1)),
                                  (12, 6, (2, 1)), (10 ** 12, 10 ** 12, (1, 1))):
            share = Share(top, bottom)
            self.assertEqual((share.top, share.bottom), told)

    def test_bottom_left_out(self):
        for top in TOPS:
            self.check(Share(top), Fraction(top))
            self.check(Share(top=top), Fraction(top))

    def test_by_name(self):
        self.check(Share(top=6, bottom=-4), Fraction(-3, 2))
        self.check(Share(bottom=-4, top=6), Fraction(-3, 2))
        self.check(Share(6, bottom=-4), Fraction(-3, 2))

    def test_bottom_zero(self):
        for top in TOPS:
            with self.assertRaises(NoShare) as caught:
                Share(top, 0)
            self.assertEqual(caught.exception.top, top)
        with self.assertRaises(LessError):
            Share(bottom=0, top=1)

    def test_arithmetic(self):
        for one in SMALL:
            for sign in ARITHMETIC:
                for other in SMALL:
                    right = sign(Fraction(*one), Fraction(*other))
                    self.check(sign(Share(*one), Share(*other)), right, (sign, one, other))
                for number in INTEGERS:
                    self.check(sign(Share(*one), number), sign(Fraction(*one), number), (sign, one, number))
                    self.check(sign(number, Share(*one)), sign(number, Fraction(*one)), (sign, number, one))

    def test_minus_and_abs(self):
        for pair in SMALL:
            self.check(-Share(*pair), -Fraction(*pair), pair)
            self.check(abs(Share(*pair)), abs(Fraction(*pair)), pair)

    def test_in_place(self):
        for sign in IN_PLACE:
            for pair in SMALL:
                for other in (0, 1, -3, Share(0), Share(1), Share(5, 7)):
                    old = Share(*pair)
                    told = (old.top, old.bottom)
                    new = sign(old, other)
                    self.assertIsNot(new, old)
                    self.assertEqual((old.top, old.bottom), told)
        share = kept = Share(1, 2)
        share += 1
        share *= Share(2, 3)
        share -= Share(1, 4)
        self.check(share, Fraction(3, 4))
        self.check(kept, Fraction(1, 2))
        number = 2
        number -= kept
        self.check(number, Fraction(3, 2))

    def test_operators_give_other_objects(self):
        one, nought = Share(1), Share(0)
        for given in (one + 0, 0 + one, one - 0, one * 1, 1 * one, one + nought, nought + one, one * one, abs(one),
                      one.over(1), one.over(one)):
            self.assertIsNot(given, one)
            self.check(given, Fraction(1))

    def test_operators_change_nothing(self):
        for sign in ARITHMETIC + COMPARISONS:
            one, other = Share(-3, 4), Share(5, 6)
            sign(one, other)
            sign(one, 7)
            sign(7, one)
            self.check(one, Fraction(-3, 4))
            self.check(other, Fraction(5, 6))

    def test_over(self):
        for one in SMALL:
            for other in SMALL:
                if other[0] != 0:
                    right = Fraction(*one) / Fraction(*other)
                    self.check(Share(*one).over(Share(*other)), right, (one, other))
                    self.check(Share(*one).over(number=Share(*other)), right, (one, other))
            for number in INTEGERS:
                if number != 0:
                    self.check(Share(*one).over(number), Fraction(*one) / number, (one, number))

    def test_over_nought(self):
        for pair in SMALL:
            share = Share(*pair)
            for nought in (0, Share(0), Share(0, -7)):
                with self.assertRaises(NoShare) as caught:
                    share.over(nought)
                self.assertEqual(caught.exception.top, share.top)
        with self.assertRaises(NoShare) as caught:
            Share(6, -4).over(number=0)
        self.assertEqual(caught.exception.top, -3)

    def test_comparisons(self):
        for one in SMALL:
            for sign in COMPARISONS:
                for other in SMALL:
                    told = sign(Share(*one), Share(*other))
                    self.assertIs(told, sign(Fraction(*one), Fraction(*other)), (sign, one, other))
                for number in INTEGERS:
                    self.assertIs(sign(Share(*one), number), sign(Fraction(*one), number), (sign, one, number))
                    self.assertIs(sign(number, Share(*one)), sign(number, Fraction(*one)), (sign, number, one))

    def test_equal_ones_made_otherwise(self):
        for one, other in ((Share(1, 2), Share(-50, -100)), (Share(0), Share(0, -9)), (Share(4, 2), 2),
                           (Share(1, 3) + Share(2, 3), 1), (Share(GREAT, 3 * GREAT), Share(1, 3)), (Share(0, 5), 0),
                           (Share(1, 2) - Share(1, 2), 0), (Share(10 ** 12 * 7, 10 ** 12), 7)):
            for left, right in ((one, other), (other, one)):
                self.assertIs(left == right, True)
                self.assertIs(left != right, False)
                self.assertIs(left < right, False)
                self.assertIs(left > right, False)
                self.assertIs(left <= right, True)
                self.assertIs(left >= right, True)

    def test_close_neighbours(self):
        near = Share(1, 10 ** 12)
        for share in (Share(0), Share(1), Share(-5, 7), Share(GREAT), Share(GREAT - 1, GREAT), Share(1, 3 ** 60)):
            above = share + near * near
            self.assertIs(share < above, True)
            self.assertIs(share <= above, True)
            self.assertIs(share > above, False)
            self.assertIs(share >= above, False)
            self.assertIs(share == above, False)
            self.assertIs(share != above, True)
            self.assertIs(above > share, True)
        self.assertIs(1 > Share(GREAT - 1, GREAT), True)
        self.assertIs(1 < Share(GREAT, GREAT - 1), True)
        self.assertIs(1 == Share(GREAT, GREAT - 1), False)

    def test_equal_to_no_other_object(self):
        for share in (Share(0), Share(1), Share(1, 2)):
            for other in others():
                self.assertIs(share == other, False, other)
                self.assertIs(other == share, False, other)
                self.assertIs(share != other, True, other)
                self.assertIs(other != share, True, other)
            self.assertIs(share == AlwaysEqual(), False)
            self.assertIs(share != AlwaysEqual(), True)

    def test_truths_are_no_numbers(self):
        for sign in ARITHMETIC + (operator.lt, operator.le, operator.gt, operator.ge):
            for other in (True, False, None, "1", [1], 1.5):
                with self.assertRaises(TypeError):
                    sign(Share(1), other)
                with self.assertRaises(TypeError):
                    sign(other, Share(1))

    def test_other_things_are_left_to_themselves(self):
        for sign in ARITHMETIC + (operator.lt, operator.le, operator.gt, operator.ge):
            self.assertEqual(sign(Share(1, 2), Deferred()), "told by the other side")
            self.assertEqual(sign(Deferred(), Share(1, 2)), "told by the other side")

    def test_in_lists(self):
        self.assertEqual([Share(2, 4), 3], [Share(1, 2), Share(3)])
        self.assertIn(Share(1), [5, True, 1])
        self.assertNotIn(Share(1), [True, "1", None])
        self.check(sum([Share(1, 2), Share(1, 3)]), Fraction(5, 6))

    def test_str(self):
        for pair, text in (((-3, 4), "-3/4"), ((3, -4), "-3/4"), ((6, 8), "3/4"), ((5, 1), "5"), ((-5, 1), "-5"),
                           ((0, 7), "0"), ((0, -7), "0"), ((10, 5), "2"), ((-10, 5), "-2"), ((1, GREAT), f"1/{GREAT}"),
                           ((10 ** 60, 1), "1" + "0" * 60), ((-1, 10 ** 120), "-1/1" + "0" * 120)):
            self.assertEqual(str(Share(*pair)), text)
            self.assertEqual(f"{Share(*pair)}", text)
        for top in TOPS:
            for bottom in BOTTOMS:
                self.assertEqual(str(Share(top, bottom)), str(Fraction(top, bottom)))

    def test_str_of_many_digits(self):
        for count in range(50, 200):
            for top in (10 ** count, -(10 ** count), 10 ** count - 1, 7 ** count):
                self.assertEqual(str(Share(top)), str(top))
        nines = Share(10 ** 9000 - 1)
        self.assertEqual(str(nines), "9" * 9000)
        self.assertEqual(str(-nines), "-" + "9" * 9000)
        self.assertEqual(str(Share(1).over(nines)), "1/" + "9" * 9000)


if __name__ == "__main__":
    unittest.main()
