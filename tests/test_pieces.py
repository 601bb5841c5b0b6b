"""Points 34 to 38, 40 and 44: pieces, their operators and comparisons, lands of them, and what is put in them."""

import operator
import unittest

from lessways.asking import Asker
from lessways.errors import BadCount, HasGiven, NotNumber, NoUnknown, UnlikeCounts
from lessways.lands import Land
from lessways.pieces import Pieces
from lessways.shares import Share
from lessways.terms import Term
from tests.codes import (any_plan, code_of, ends_of, flat, form_leaf, forms_of, is_form, linear, runs_of, told_points,
                         truth_leaf, value_at)
from tests.faces import faces_of
from tests.reckoned import bounds

X, Y, Z = [Term.unknown(k) for k in range(3)]
SUMS = (operator.add, operator.sub)
BOTH = (operator.and_, operator.or_)
ORDERS = (operator.lt, operator.le, operator.gt, operator.ge)
HALF = Share(1, 2)


def shares(point):
    return tuple(Share(one.numerator, one.denominator) for one in point)


def read(plan, unknowns):
    return Asker(unknowns, most=2000, deepest=12).read(code_of(plan))


def whole(value):
    return value if is_form(value) else (value, 0, 0, 0)


def gaps(left, right):
    """The forms by which two lists of values differ."""
    return sorted({tuple(a - b for a, b in zip(whole(one), whole(other))) for one in left for other in right})


def pairs(seeds):
    """(unknowns, plan, plan, points on all faces of their asks and of the differences of their values)."""
    for seed in seeds:
        unknowns = 1 + seed % 2
        one = any_plan(seed, unknowns, 3, form_leaf, 2)
        two = any_plan(seed + 500, unknowns, 2, form_leaf, 1)
        yield unknowns, one, two, points_of_two(one, two, unknowns)


def points_of_two(one, two, unknowns):
    forms = [*forms_of(one), *forms_of(two)]
    found = {}
    for gap in gaps(ends_of(one), ends_of(two)):
        found.update((point, True) for point in faces_of([*forms, gap], unknowns))
    return list(found)


class Checked(unittest.TestCase):

    def check_numbers(self, pieces, points, number):
        """That pieces have the numbers that a function tells of points of fractions."""
        self.assertIs(type(pieces), Pieces)
        for point in points:
            told = pieces(shares(point))
            self.assertIs(type(told), Share)
            self.assertEqual(flat(told), number(point))

    def check_point(self, point):
        self.assertIs(type(point), tuple)
        self.assertEqual([type(share) for share in point], [Share, Share, Share])
        return flat(point)


class MakingTest(Checked):

    def test_read(self):
        for seed in range(40):
            unknowns = 1 + seed % 3
            plan = any_plan(seed, unknowns, 3, form_leaf, 5 - unknowns)
            pieces = read(plan, unknowns)
            self.assertEqual(pieces.unknowns, unknowns)
            self.check_numbers(pieces, told_points(plan, unknowns), lambda point: value_at(plan, point))

    def test_numbers_of_all_kinds(self):
        def code(ask, x):
            if ask(x[0] > 1):
                return Share(7, 2) if ask(x[0] > 2) else x[0] - HALF
            return 3 if ask(x[0] < 0) else Term.constant(4)
        pieces = Asker(1).read(code=code)
        for worth, number in ((-1, 3), (0, 4), (1, 4), (Share(3, 2), 1), (2, Share(3, 2)), (Share(5, 2), Share(7, 2))):
            self.assertEqual(pieces([worth]), number)

    def test_points_that_give_few_or_many(self):
        pieces = Asker(2).read(lambda ask, x: x[0] - 2 * x[1] if ask(x[1] > 1) else 9)
        for point, number in (((), 9), ([4], 9), ((4, 2), 0), ([4, Share(3, 2), 8], 1)):
            self.assertEqual(pieces(point), number)
            self.assertEqual(pieces(point=point), number)

    def test_of_term(self):
        pieces = Pieces.of_term(2, X - 3 * Y + HALF)
        self.assertEqual((pieces.unknowns, pieces((1, 1)), pieces(())), (2, Share(-3, 2), HALF))
        self.assertEqual(Pieces.of_term(unknowns=1, term=7)((3,)), 7)
        self.assertEqual(Pieces.of_term(3, HALF)((3,)), HALF)
        self.assertIs(type(Pieces.of_term(3, 5)(())), Share)
        self.assertIn("unknowns", vars(pieces))

    def test_of_term_errors(self):
        for value in (0, 4, True, None, "1"):
            with self.assertRaises(BadCount) as caught:
                Pieces.of_term(value, X + Z)
            self.assertIs(caught.exception.value, value)
        for unknowns, term, k in ((1, X + Z, 2), (1, Z - Y, 1), (2, Y + Z, 2)):
            with self.assertRaises(NoUnknown) as caught:
                Pieces.of_term(unknowns, term)
            self.assertEqual(caught.exception.k, k)

    def test_has_given(self):
        rows = [X > 0, X < 9]
        asker = Asker(1, given=rows)
        for _ in range(2):
            with self.assertRaises(HasGiven) as caught:
                asker.read(lambda ask, x: None)
            self.assertEqual(caught.exception.rows, rows)
            caught.exception.rows.clear()
        self.assertEqual(asker.calls, 0)

    def test_not_number(self):
        with self.assertRaises(NotNumber) as caught:
            Asker(1).read(lambda ask, x: True if ask(x[0] > 0) else 1)
        self.assertEqual(caught.exception.path, ((X > 0, True),))


class OperatorsTest(Checked):

    def test_with_pieces(self):
        for unknowns, one, two, points in pairs(range(30)):
            p, q = read(one, unknowns), read(two, unknowns)

            def first(point):
                return value_at(one, point)

            def second(point):
                return value_at(two, point)

            self.check_numbers(p + q, points, lambda point: first(point) + second(point))
            self.check_numbers(p - q, points, lambda point: first(point) - second(point))
            self.check_numbers(p & q, points, lambda point: min(first(point), second(point)))
            self.check_numbers(p | q, points, lambda point: max(first(point), second(point)))
            self.check_numbers(abs(p - q), points, lambda point: abs(first(point) - second(point)))
            self.check_numbers(-p, points, lambda point: -first(point))
            self.check_numbers(abs(p), points, lambda point: abs(first(point)))
            self.check_numbers(p, points, first)
            self.check_numbers(q, points, second)

    def test_with_terms_and_numbers_on_either_side(self):
        for seed in range(20):
            plan = any_plan(seed, 2, 3, form_leaf, 2)
            p = read(plan, 2)
            points = told_points(plan, 2)
            for other in (X - 2 * Y + 1, Term.constant(2), 3, -1, 0, HALF):
                def thing(point):
                    return flat(other.at(shares(point))) if isinstance(other, Term) else flat(Share(1) * other)

                def own(point):
                    return value_at(plan, point)

                self.check_numbers(p + other, points, lambda point: own(point) + thing(point))
                self.check_numbers(other + p, points, lambda point: own(point) + thing(point))
                self.check_numbers(p - other, points, lambda point: own(point) - thing(point))
                self.check_numbers(other - p, points, lambda point: thing(point) - own(point))
                self.check_numbers(p & other, points, lambda point: min(own(point), thing(point)))
                self.check_numbers(other & p, points, lambda point: min(own(point), thing(point)))
                self.check_numbers(p | other, points, lambda point: max(own(point), thing(point)))
                self.check_numbers(other | p, points, lambda point: max(own(point), thing(point)))

    def test_multiples(self):
        plan = any_plan(3, 2, 3, form_leaf, 3)
        p = read(plan, 2)
        points = told_points(plan, 2)
        for number in (0, 1, -1, 3, HALF, Share(-5, 3), 10 ** 12 - 1):
            by = flat(Share(1) * number)
            self.check_numbers(p * number, points, lambda point: by * value_at(plan, point))
            self.check_numbers(number * p, points, lambda point: by * value_at(plan, point))

    def test_multiples_of_sums(self):
        plan = any_plan(3, 2, 3, form_leaf, 3)
        p = read(plan, 2) + X - 3
        points = told_points(plan, 2)
        for number in (0, -2, HALF):
            by = flat(Share(1) * number)
            self.check_numbers(p * number, points, lambda point: by * (value_at(plan, point) + point[0] - 3))
            self.check_numbers(number * (p - p), points, lambda point: 0)
            self.check_numbers(Pieces.of_term(2, 2 * X + 5) * number, points, lambda point: by * (2 * point[0] + 5))

    def test_sums_of_many(self):
        for unknowns, one, two, points in pairs(range(10)):
            p, q = read(one, unknowns), read(two, unknowns)
            r = Pieces.of_term(unknowns, 2 * X - 1)
            total = p - 2 * q + (p & q) - 3 * (p | r) + abs(q) * HALF - (q & r) + abs(p - r) + r

            def reckoned(point):
                a, b, c = value_at(one, point), value_at(two, point), 2 * point[0] - 1
                return a - 2 * b + min(a, b) - 3 * max(a, c) + flat(HALF) * abs(b) - min(b, c) + abs(a - c) + c

            self.check_numbers(total, points, reckoned)
            self.check_numbers(total - total, points, lambda point: 0)
            self.check_numbers(total + p, points, lambda point: reckoned(point) + value_at(one, point))
            self.assertIs(total - p + 2 * q == total + p + 2 * (q - p), True)
            self.assertIs(total - p + 2 * q == total + p + 2 * q, p == Pieces.of_term(unknowns, 0))

    def test_against_the_code_that_reckons_the_same(self):
        for unknowns, one, two, _ in pairs(range(24)):
            p, q = read(one, unknowns), read(two, unknowns)
            first, second = code_of(one), code_of(two)

            def lesser(ask, x):
                a, b = first(ask, x), second(ask, x)
                return a if ask(a <= b) else b

            def swapped(ask, x):
                b, a = second(ask, x), first(ask, x)
                return b if ask(b > a) else a

            def far(ask, x):
                gap = first(ask, x) - second(ask, x)
                return gap if ask(gap > 0) else -gap

            asker = Asker(unknowns, deepest=12)
            self.assertIs(asker.read(lesser) == p & q, True)
            self.assertIs(asker.read(swapped) == q | p, True)
            self.assertIs(asker.read(far) == abs(p - q), True)
            self.assertIs(asker.read(lambda ask, x: 2 * second(ask, x) + first(ask, x) - x[0]) == q + p + q - X, True)
            self.assertIs((p & q) + (p | q) == p + q, True)

    def test_in_three_unknowns(self):
        one = any_plan(7, 3, 3, form_leaf, 2)
        two = any_plan(8, 3, 2, form_leaf, 2)
        p, q = read(one, 3), read(two, 3)
        for point in told_points(one, 3):
            a, b = value_at(one, point), flat(q(shares(point)))
            self.assertEqual(b, value_at(two, point))
            self.assertEqual([flat(told(shares(point))) for told in (p + q, p - q, p & q, p | q, abs(p - q) * 2 + Z)],
                             [a + b, a - b, min(a, b), max(a, b), abs(a - b) * 2 + point[2]])
        self.assertEqual((p | q) - (p & q), abs(q - p))

    def test_operands_stay_and_operators_in_place_give_another_one(self):
        p = q = Asker(1).read(lambda ask, x: x[0] if ask(x[0] > 0) else 0)
        p += 1
        p -= X
        p *= 2
        p &= 5
        p |= q
        self.assertEqual([q([worth]) for worth in (-1, 0, 3)], [0, 0, 3])
        self.assertEqual([p([worth]) for worth in (-2, 0, 1, 7)], [5, 2, 2, 7])

    def test_no_operators_with_other_things(self):
        p = Pieces.of_term(1, X)
        for sign in (*SUMS, *BOTH, *ORDERS, operator.mul):
            for other in (None, "1", [1], X > 0, ()):
                with self.assertRaises(TypeError):
                    sign(p, other)
                with self.assertRaises(TypeError):
                    sign(other, p)
        for other in (p, X):
            with self.assertRaises(TypeError):
                p * other

    def test_errors(self):
        p, q = Pieces.of_term(1, X), Pieces.of_term(2, X)
        names = ("parted", "below", "level")
        for sign in (*SUMS, *BOTH, *ORDERS, *[getattr(Pieces, name) for name in names]):
            for left, right in ((p, q), (q, p)):
                with self.assertRaises(UnlikeCounts) as caught:
                    sign(left, right)
                self.assertEqual((caught.exception.one, caught.exception.other), (left.unknowns, right.unknowns))
            for term, k in ((X + Z, 2), (Z - Y, 1)):
                with self.assertRaises(NoUnknown) as caught:
                    sign(p, term)
                self.assertEqual(caught.exception.k, k)
        for sign in (*SUMS, *BOTH, *ORDERS):
            with self.assertRaises(NoUnknown) as caught:
                sign(Z - Y, p)
            self.assertEqual(caught.exception.k, 1)


class ComparedTest(Checked):

    def test_with_pieces(self):
        for unknowns, one, two, points in pairs(range(40)):
            p, q = read(one, unknowns), read(two, unknowns)
            told = [(value_at(one, point), value_at(two, point)) for point in points]
            for sign in ORDERS:
                self.assertIs(sign(p, q), all(sign(a, b) for a, b in told))
                self.assertIs(sign(p + abs(p - q), q), all(sign(a + abs(a - b), b) for a, b in told))
            self.assertIs(p == q, all(a == b for a, b in told))
            self.assertIs(p != q, any(a != b for a, b in told))
            self.check_parted(p, q, one, two, any(a != b for a, b in told))

    def check_parted(self, p, q, one, two, there):
        for left, right in ((p, q), (q, p)):
            point = left.parted(right)
            if not there:
                self.assertIsNone(point)
                continue
            point = self.check_point(point)
            self.assertNotEqual(value_at(one, point), value_at(two, point))

    def test_with_terms_and_numbers_on_either_side(self):
        p = Asker(2).read(lambda ask, x: x[0] if ask(x[0] > x[1]) else x[1])
        self.assertEqual([p >= X, p > X, p < X, p <= X], [True, False, False, False])
        self.assertEqual([X <= p, X < p, X > p, X >= p], [True, False, False, False])
        self.assertEqual([p + 1 > Y, Y < p + 1, Y >= p + 1, p + HALF > Y], [True, True, False, True])
        square = p & 3 | -3
        self.assertEqual([square <= 3, square < 3, square >= -3, 3 >= square, 4 > square, -3 <= square, HALF < square],
                         [True, False, True, True, True, True, False])
        self.assertIsNone((p | X).parted(p))
        self.assertIsNone(p.parted(Y | p))
        self.assertIsNotNone(p.parted(Y))
        self.assertIsNotNone(p.parted(q=3))

    def test_unlike_on_a_thin_face_alone(self):
        asker = Asker(2)
        thin = asker.read(lambda ask, x: 1 if ask(x[0] >= x[1]) and ask(x[0] <= x[1]) else 0)
        none = Pieces.of_term(2, 0)
        self.assertEqual([thin == none, thin >= none, thin <= none, thin > none, none <= thin],
                         [False, True, False, False, True])
        point = self.check_point(thin.parted(0))
        self.assertEqual(point[0], point[1])
        dot = asker.read(lambda ask, x: 1 if ask(x[0] >= 1) and ask(x[0] <= 1) and ask(x[1] >= 2) and ask(x[1] <= 2)
                         else 0)
        self.assertEqual(self.check_point(dot.parted(none))[:2], (1, 2))
        self.assertEqual([dot <= thin, thin & dot == none, dot - thin <= dot], [False, True, True])

    def test_equality_however_the_asks_were(self):
        asker = Asker(2)
        one = asker.read(lambda ask, x: x[0] if ask(x[0] > 0) else -x[0])
        two = asker.read(lambda ask, x: -x[0] if ask(x[0] < 0) else 0 if ask(x[0] <= 0) else x[0])
        three = asker.read(lambda ask, x: 0 if ask(x[0] >= 0) and ask(x[0] <= 0) else
                           x[0] if ask(x[1] > 5) and ask(x[0] > 1) or ask(x[0] >= 0) else -x[0])
        self.assertEqual([one == two, two == three, one == three, one == abs(Pieces.of_term(2, X))], [True] * 4)
        self.assertEqual([one != two, one == two + 0, one == two - HALF], [False, True, False])

    def test_other_things_are_not_equal(self):
        p = Pieces.of_term(1, 3)
        for other in (3, Share(3), Term.constant(3), None, True, [], "3", Pieces.of_term(2, 3), Land.of_rows(1, [])):
            self.assertIs(p == other, False)
            self.assertIs(p != other, True)
            self.assertIs(other == p, False)
        self.assertIs(p == Pieces.of_term(1, Term.constant(3)), True)
        self.assertIs(p != Pieces.of_term(1, 3), False)


class LandsOfPiecesTest(Checked):

    def test_below_and_level(self):
        for unknowns, one, two, points in pairs(range(30)):
            p, q = read(one, unknowns), read(two, unknowns)
            below, level = p.below(q), p.level(q)
            self.assertEqual([type(land) for land in (below, level)], [Land, Land])
            self.assertEqual([land.unknowns for land in (below, level)], [unknowns, unknowns])
            for point in points:
                a, b = value_at(one, point), value_at(two, point)
                self.assertIs(shares(point) in below, a < b)
                self.assertIs(shares(point) in level, a == b)
            self.assertEqual(below | level | q.below(p), Land.of_rows(unknowns, []))
            self.assertEqual(below.is_all(), p < q)
            self.assertEqual(level.is_all(), p == q)

    def test_with_terms_and_numbers(self):
        p = abs(Pieces.of_term(2, X))
        self.assertEqual(p.below(2), Land.of_rows(2, [X < 2, X > -2]))
        self.assertEqual(p.below(q=Y), Land.of_rows(2, [X < Y, X > -Y]))
        self.assertEqual(p.level(q=0), Land.of_rows(2, [X >= 0, X <= 0]))
        self.assertEqual(p.level(-HALF), ~Land.of_rows(2, []))
        self.assertEqual(p.level(X), Land.of_rows(2, [X >= 0]))

    def test_where(self):
        for unknowns, one, two, _ in pairs(range(24)):
            third = any_plan(unknowns + 40, unknowns, 3, truth_leaf, 2)
            land = Asker(unknowns).land(code_of(third))
            points = faces_of([*forms_of(one), *forms_of(two), *forms_of(third)], unknowns)

            def number(point):
                return value_at(one if value_at(third, point) else two, point)

            self.check_numbers(read(one, unknowns).where(land, read(two, unknowns)), points, number)

    def test_where_with_terms_and_numbers(self):
        p = Pieces.of_term(1, X)
        land = Land.of_rows(1, [X >= 0])
        self.assertEqual(p.where(land, -X), abs(p))
        self.assertEqual(p.where(land=land, q=0), p | 0)
        self.assertEqual(p.where(~land, HALF)((3,)), HALF)
        self.assertEqual(p.where(land | ~land, 5), p)
        self.assertEqual(p.where(land - land, 5), Pieces.of_term(1, 5))

    def test_where_errors(self):
        p = Pieces.of_term(1, X)
        for q in (Pieces.of_term(2, X), Y, 1):
            with self.assertRaises(UnlikeCounts) as caught:
                p.where(Land.of_rows(3, []), q)
            self.assertEqual((caught.exception.one, caught.exception.other), (1, 3))
        land = Land.of_rows(1, [])
        with self.assertRaises(UnlikeCounts) as caught:
            p.where(land, Pieces.of_term(2, X))
        self.assertEqual((caught.exception.one, caught.exception.other), (1, 2))
        with self.assertRaises(NoUnknown) as caught:
            p.where(land, Z - Y)
        self.assertEqual(caught.exception.k, 1)


class SpanTest(Checked):

    def expected(self, plan, unknowns):
        """(least, greatest) of a plan, by the test's own reckoning along each run."""
        found = []
        for run in runs_of(plan, told_points(plan, unknowns)):
            rows = []
            for form, strict, answer, _ in run.path:
                term = linear(form, (X, Y, Z))
                row = term > 0 if strict else term >= 0
                rows.append(row if answer else ~row)
            found.append(bounds(rows, linear(whole(run.value), (X, Y, Z))))
        lows, highs = [low for low, _ in found], [high for _, high in found]
        return (None if None in lows else min(lows, key=lambda end: (end[0], not end[1])),
                None if None in highs else max(highs))

    def test_pieces_of_plans(self):
        for seed in range(40):
            unknowns = 1 + seed % 3
            plan = any_plan(seed, unknowns, 3, form_leaf, 5 - unknowns)
            pieces = read(plan, unknowns)
            low, high = self.expected(plan, unknowns)
            told = pieces.span()
            self.assertIs(type(told), tuple)
            self.assertEqual(tuple(end and (flat(end[0]), end[1]) for end in told), (low, high))
            self.check_endless(pieces, plan, high is None)
            self.check_endless(-pieces, self.turned(plan), low is None)

    def turned(self, plan):
        """The plan of the contrary numbers."""
        if plan[0] == "leaf":
            return ("leaf", tuple(-number for number in whole(plan[1])))
        return (*plan[:4], self.turned(plan[4]), self.turned(plan[5]))

    def check_endless(self, pieces, plan, there):
        told = pieces.endless()
        if not there:
            self.assertIsNone(told)
            return
        self.assertIs(type(told), tuple)
        point, direction = [self.check_point(part) for part in told]
        numbers = [value_at(plan, [one + many * way for one, way in zip(point, direction)])
                   for many in (0, 1, 2, 3, 50, 10 ** 12)]
        step = numbers[1] - numbers[0]
        self.assertGreater(step, 0)
        self.assertEqual(numbers, [numbers[0] + many * step for many in (0, 1, 2, 3, 50, 10 ** 12)])

    def test_ends(self):
        p = Asker(1).read(lambda ask, x: x[0] if ask(x[0] > 0) else 2)
        self.assertEqual(p.span(), ((Share(0), False), None))
        self.assertEqual((p & 7 - p).span(), (None, (Share(7, 2), True)))
        self.assertEqual((p & 5).span(), ((Share(0), False), (Share(5), True)))
        self.assertEqual(Pieces.of_term(3, HALF).span(), ((HALF, True), (HALF, True)))
        self.assertEqual(Pieces.of_term(1, X).span(), (None, None))
        self.assertIsNone((p & 5).endless())
        self.assertIsNotNone(p.endless())

    def test_endless_with_multiples_of_unlike_bottoms(self):
        for up, down in ((Share(1, 3), Share(1, 6)), (Share(2, 3), Share(3, 5)), (Share(1, 4), Share(5, 6))):
            def code(ask, x):
                gap = x[0] - x[1]
                if ask(gap >= 0) and ask(gap <= 1) and ask(x[0] >= 0):
                    return up * x[0] - down * x[1]
                return 0
            p = Asker(2).read(code)
            grows = up > down
            self.assertIs(p.endless() is None, not grows)
            self.assertIs((-p).endless() is None, grows)
            point, way = [self.check_point(part) for part in (p if grows else -p).endless()]
            slope = flat(up) * way[0] - flat(down) * way[1]
            self.assertIs(slope > 0 if grows else slope < 0, True)
            self.assertTrue(way[0] == way[1] > 0 and 0 <= point[0] - point[1] <= 1 and point[0] >= 0)


class PutTest(Checked):

    def test_against_points_and_the_code_that_reckons_the_same(self):
        for seed in range(24):
            own, many = 1 + seed % 3, 1 + seed // 3 % 2
            plan = any_plan(seed, own, 2, form_leaf, 2)
            plans = [any_plan(seed + 100 * k, many, 2, form_leaf, 1) for k in range(1, own + 1)]
            put = read(plan, own).put([read(part, many) for part in plans])
            self.assertEqual(put.unknowns, many)
            self.check_put(put, plan, plans, many)

            def code(ask, x):
                return code_of(plan)(ask, [code_of(part)(ask, x) for part in plans])

            self.assertIs(put == Asker(many, deepest=12, most=2000).read(code), True)

    def check_put(self, put, plan, plans, many):
        points = faces_of([form for part in plans for form in forms_of(part)], many)
        self.check_numbers(put, points, lambda point: value_at(plan, [value_at(part, point) for part in plans]))

    def test_terms_and_numbers(self):
        p = Asker(2).read(lambda ask, x: x[0] - x[1] if ask(x[0] > 2 * x[1]) else 5)
        self.assertEqual(p.put([X, Y]), p)
        self.assertEqual(p.put((Y, X))((0, 7)), p((7, 0)))
        self.assertEqual(p.put(parts=[3, HALF])(()), Share(5, 2))
        self.assertEqual(p.put([3, 1]).unknowns, 2)
        three = p.put([Pieces.of_term(3, Z), X - Y])
        self.assertEqual((three.unknowns, three((1, 2, 3)), three((9, 2, 3))), (3, p((3, -1)), p((3, 7))))
        one = p.put([X + 1, Pieces.of_term(1, 0)])
        self.assertEqual((one.unknowns, one((4,)), one((-4,))), (1, 5, 5))
        self.assertEqual(Pieces.of_term(1, 2 * X).put([abs(Pieces.of_term(2, X - Y))])((1, 4)), 6)

    def test_on_thin_faces(self):
        dot = Asker(1).read(lambda ask, x: 1 if ask(x[0] >= 0) and ask(x[0] <= 0) else 0)
        line = dot.put([Pieces.of_term(2, X - Y)])
        self.assertEqual(line.level(1), Land.of_rows(2, [X >= Y, X <= Y]))
        self.assertEqual(dot.put([0]), Pieces.of_term(1, 1))
        self.assertEqual(dot.put([dot]), 1 - dot)

    def test_errors(self):
        p = Pieces.of_term(2, X + Y)
        for parts in ([], [X], (X, Y, Z), [Pieces.of_term(1, X), Pieces.of_term(2, X), Z]):
            with self.assertRaises(BadCount) as caught:
                p.put(parts)
            self.assertEqual(caught.exception.value, len(parts))
        one, two = Pieces.of_term(1, X), Pieces.of_term(2, X)
        for parts, told in (([one, two], (1, 2)), ([two, one], (2, 1))):
            with self.assertRaises(UnlikeCounts) as caught:
                p.put(parts)
            self.assertEqual((caught.exception.one, caught.exception.other), told)
        for parts, k in (([X, Z], 2), ([Z, one], 2), ([one, Z + Y], 1), ([Y, one], 1)):
            with self.assertRaises(NoUnknown) as caught:
                p.put(parts)
            self.assertEqual(caught.exception.k, k)
        three = Pieces.of_term(3, X)
        with self.assertRaises(NoUnknown) as caught:
            three.put([Y, one, two])
        self.assertEqual(caught.exception.k, 1)
        with self.assertRaises(UnlikeCounts) as caught:
            three.put([one, two, Y])
        self.assertEqual((caught.exception.one, caught.exception.other), (1, 2))

    def test_parts_stay(self):
        parts = [Y, X]
        p = Pieces.of_term(2, X - Y)
        put = p.put(parts)
        parts.clear()
        self.assertEqual([p((5, 3)), put((5, 3))], [2, -2])


if __name__ == "__main__":
    unittest.main()
