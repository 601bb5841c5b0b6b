"""Points 39, 45 and 46: one_term, leans, falls, bends, jumps and twice."""

import unittest
from fractions import Fraction

from lessways.asking import Asker
from lessways.errors import BadCount, NoUnknown
from lessways.pieces import Pieces
from lessways.shares import Share
from lessways.terms import Term
from tests.codes import any_plan, code_of, ends_of, flat, form_leaf, forms_of, is_form, value_at
from tests.faces import around, points_of, worth

X, Y, Z = [Term.unknown(k) for k in range(3)]
HALF = Share(1, 2)


def read(plan, unknowns):
    return Asker(unknowns, most=2000, deepest=12).read(code_of(plan))


def whole(value):
    return value if is_form(value) else (value, 0, 0, 0)


def gaps_of(plan):
    values = {whole(value) for value in ends_of(plan)}
    return [tuple(a - b for a, b in zip(one, other)) for one in values for other in values if one != other]


def swapped(form):
    """A form with the unknowns 0 and 1 exchanged."""
    return (form[0], form[2], form[1], form[3])


class Line:
    """A plan of one unknown: shares at which it may change, the numbers there and the forms between them.

    For more unknowns, all but unknown k stand still at a point.
    """

    def __init__(self, plan, point, k):
        self.plan, self.point, self.k = plan, list(point), k
        forms = [form for form in forms_of(plan) if form[k + 1]]
        base = [0 if at == k else one for at, one in enumerate(self.point)]
        self.shares = sorted({-worth(form, base) / Fraction(form[k + 1]) for form in forms})
        places = around(self.shares)[::2] if self.shares else [Fraction(0)]
        self.forms = [self.form_at(place) for place in places]
        self.numbers = [value_at(plan, self.at(share)) for share in self.shares]

    def at(self, share):
        return [share if at == self.k else one for at, one in enumerate(self.point)]

    def form_at(self, share):
        """(number, multiple): how the number changes around a share."""
        form = whole(self.leaf_at(self.at(share)))
        base = [0 if at == self.k else one for at, one in enumerate(self.point)]
        return Fraction(worth(form, base)), Fraction(form[self.k + 1])

    def leaf_at(self, point):
        at = self.plan
        while at[0] == "ask":
            share = worth(at[1], point)
            at = at[5] if share > 0 or share == 0 and not at[2] else at[4]
        return at[1]

    def turns(self):
        """(share, form before, number here, form behind) of each share at which it may change."""
        return list(zip(self.shares, self.forms, self.numbers, self.forms[1:]))

    def bends(self):
        return [share for share, before, here, behind in self.turns()
                if before != behind or before[0] + before[1] * share != here]

    def jumps(self):
        found = []
        for share, before, here, behind in self.turns():
            left, right = [form[0] + form[1] * share for form in (before, behind)]
            if left != here or right != here:
                found.append((share, left, here, right))
        return found

    def falls(self):
        return any(form[1] < 0 for form in self.forms) or any(left > here or here > right
                                                               for _, left, here, right in self.jumps())

    def leans(self):
        return any(form[1] != 0 for form in self.forms) or bool(self.jumps())

    def images(self):
        """The numbers of each stretch, as (least, greatest) of an open one, None without end, or of one number."""
        ends = [None, *self.shares, None]
        found = [(here, here) for here in self.numbers]
        for low, high, (number, times) in zip(ends, ends[1:], self.forms):
            two = [end if end is None else number + times * end for end in (low, high)]
            if times == 0:
                return None
            found.append(tuple(two if times > 0 else two[::-1]))
        return found

    def twice(self):
        images = self.images()
        return images is None or any(meet(one, other) for at, one in enumerate(images) for other in images[:at])


def meet(one, other):
    """Whether two stretches of numbers, open ones or single numbers, have one in common."""
    if one[0] == one[1] is not None and other[0] == other[1] is not None:
        return one == other
    for single, wide in ((one, other), (other, one)):
        if single[0] == single[1] is not None:
            return (wide[0] is None or wide[0] < single[0]) and (wide[1] is None or single[0] < wide[1])
    low = max([end for end in (one[0], other[0]) if end is not None], default=None)
    high = min([end for end in (one[1], other[1]) if end is not None], default=None)
    return low is None or high is None or low < high


class Checked(unittest.TestCase):

    def check_pair(self, pair):
        """A told pair of points as fractions."""
        self.assertIs(type(pair), tuple)
        self.assertEqual(len(pair), 2)
        for point in pair:
            self.assertIs(type(point), tuple)
            self.assertEqual([type(share) for share in point], [Share, Share, Share])
        return [flat(point) for point in pair]


class OneUnknownTest(Checked):

    def check(self, plan):
        pieces, line = read(plan, 1), Line(plan, [Fraction(0)], 0)
        bends = pieces.bends()
        self.assertIs(type(bends), list)
        self.assertEqual([flat(share) for share in bends], line.bends())
        jumps = pieces.jumps()
        self.assertIs(type(jumps), list)
        self.assertTrue(all(type(jump) is tuple and [type(part) for part in jump] == [Share] * 4 for jump in jumps))
        self.assertEqual([flat(jump) for jump in jumps], line.jumps())
        self.assertTrue(all(type(share) is Share for share in bends))
        self.check_twice(pieces, plan, line.twice())

    def check_twice(self, pieces, plan, there):
        told = pieces.twice()
        if not there:
            self.assertIsNone(told)
            return
        self.assertIs(type(told), tuple)
        self.assertEqual([type(share) for share in told], [Share, Share])
        low, high = flat(told)
        self.assertLess(low, high)
        self.assertEqual(value_at(plan, [low]), value_at(plan, [high]))

    def test_plans(self):
        for seed in range(150):
            self.check(any_plan(seed, 1, 4, form_leaf, 4))

    def test_plans_that_seldom_tell_a_number_twice(self):
        told = set()
        for seed in range(150):
            plan = any_plan(seed, 1, 3, lambda chance, unknowns: (chance.randint(-9, 9), chance.randint(1, 3), 0, 0)
                            if chance.random() < 0.8 else chance.randint(-40, 40), 3)
            self.check(plan)
            told.add(read(plan, 1).twice() is None)
        self.assertEqual(told, {True, False})

    def numbers(self, code):
        pieces = Asker(1).read(code)
        return [str(share) for share in pieces.bends()], [[str(part) for part in jump] for jump in pieces.jumps()]

    def test_kinds_of_turns(self):
        self.assertEqual(self.numbers(lambda ask, x: x[0] if ask(x[0] > 0) else -x[0]), (["0"], []))
        self.assertEqual(self.numbers(lambda ask, x: 1 if ask(2 * x[0] > 1) else 0),
                         (["1/2"], [["1/2", "0", "0", "1"]]))
        self.assertEqual(self.numbers(lambda ask, x: 7 if ask(x[0] >= 3) and ask(x[0] <= 3) else x[0]),
                         (["3"], [["3", "3", "7", "3"]]))
        self.assertEqual(self.numbers(lambda ask, x: 2 * x[0] if ask(x[0] >= 1) and ask(x[0] <= 1) else x[0] + 1),
                         ([], []))
        self.assertEqual(self.numbers(lambda ask, x: 2 * x[0] + 1 if ask(x[0] > 1) else 2 * x[0]),
                         (["1"], [["1", "2", "2", "3"]]))
        self.assertEqual(self.numbers(lambda ask, x: x[0] if ask(x[0] > 1) else x[0]), ([], []))
        self.assertEqual(self.numbers(lambda ask, x: 3), ([], []))

    def test_ascending(self):
        def code(ask, x):
            if ask(x[0] > 5):
                return 3 if ask(x[0] > 9) else 2
            return 0 if ask(x[0] < -7) else 1
        self.assertEqual(self.numbers(code)[0], ["-7", "5", "9"])

    def test_of_what_operators_give(self):
        p = abs(Pieces.of_term(1, X)) + abs(X - Pieces.of_term(1, 2))
        self.assertEqual(p.bends(), [Share(0), Share(2)])
        self.assertEqual((p & 4).bends(), [Share(-1), Share(0), Share(2), Share(3)])
        self.assertEqual((p | 2).bends(), [Share(0), Share(2)])
        self.assertEqual(((p & 4) - (p & 4)).bends(), [])
        self.assertEqual(p.jumps(), [])
        self.assertIsNone((p + X * 10).twice())
        self.assertIsNotNone(p.twice())

    def test_twice(self):
        def of(code):
            return Asker(1).read(code).twice()
        self.assertIsNone(of(lambda ask, x: x[0]))
        self.assertIsNone(of(lambda ask, x: x[0] + 1 if ask(x[0] > 0) else x[0]))
        self.assertIsNone(of(lambda ask, x: 2 * x[0] if ask(x[0] > 0) else x[0]))
        self.assertIsNone(of(lambda ask, x: -x[0] if ask(x[0] > 0) else 1 - x[0].over(2)))
        self.assertEqual(of(lambda ask, x: 5 if ask(x[0] >= 0) and ask(x[0] <= 0) else x[0]), (Share(0), Share(5)))
        self.assertEqual(of(lambda ask, x: -5 if ask(x[0] >= 0) and ask(x[0] <= 0) else x[0]), (Share(-5), Share(0)))
        for code in (lambda ask, x: 3, lambda ask, x: 3 if ask(x[0] > 7) else x[0] - 9,
                     lambda ask, x: x[0] if ask(x[0] > 0) else 4 * x[0] + 9,
                     lambda ask, x: x[0] if ask(x[0] > 0) else -2 * x[0]):
            low, high = of(code)
            p = Asker(1).read(code)
            self.assertIs(low < high, True)
            self.assertEqual(p((low,)), p((high,)))

    def test_twice_where_a_number_is_left_out(self):
        def code(ask, x):
            if ask(x[0] > 0):
                return x[0]
            return -1 if ask(x[0] >= 0) else x[0] - 1
        # Just below 0 the numbers come near to -1, and at 0 it is -1 itself: no number is told twice.
        self.assertIsNone(Asker(1).read(code).twice())
        self.assertIsNone(Asker(1).read(lambda ask, x: x[0] if ask(x[0] > 0) else x[0] - 1).twice())
        self.assertIsNotNone(Asker(1).read(lambda ask, x: x[0] if ask(x[0] > 0) else x[0] + HALF).twice())

    def test_the_number_of_a_stretch_by_another_term_at_one_point(self):
        for share in (0, 3):
            def code(ask, x):
                if ask(x[0] > share):
                    return x[0] + 5
                return x[0] + 5 if ask(x[0] < share) else share + 5
            pieces = Asker(1).read(code)
            self.assertIsNone(pieces.twice())
            self.assertEqual(pieces.bends(), [])
            self.assertEqual(pieces.one_term(), X + 5)

    def test_bad_count(self):
        for count in (2, 3):
            p = Pieces.of_term(count, X)
            for asking in (p.bends, p.jumps, p.twice):
                with self.assertRaises(BadCount) as caught:
                    asking()
                self.assertEqual(caught.exception.value, count)


class LeansTest(Checked):

    def check(self, plan, unknowns):
        pieces = read(plan, unknowns)
        for k in range(unknowns):
            lines = self.lines(plan, unknowns, k)
            self.check_leans(pieces.leans(k), plan, k, any(line.leans() for line in lines))
            self.check_falls(pieces.falls(k), plan, k, any(line.falls() for line in lines))

    def lines(self, plan, unknowns, k):
        """Lines along unknown k, enough of them to see all that happens along any."""
        if unknowns == 1:
            return [Line(plan, [Fraction(0)], 0)]
        forms = [*forms_of(plan), *gaps_of(plan)]
        told = {point[0] for point in points_of([swapped(form) if k == 0 else form for form in forms], 2)}
        return [Line(plan, [Fraction(0), share] if k == 0 else [share, Fraction(0)], k) for share in told]

    def check_leans(self, told, plan, k, there):
        if not there:
            self.assertIsNone(told)
            return
        one, other = self.check_pair(told)
        self.assertEqual([at for at in range(3) if one[at] != other[at]], [k])
        self.assertNotEqual(value_at(plan, one), value_at(plan, other))

    def check_falls(self, told, plan, k, there):
        if not there:
            self.assertIsNone(told)
            return
        one, other = self.check_pair(told)
        self.assertEqual([at for at in range(3) if one[at] != other[at]], [k])
        self.assertLess(one[k], other[k])
        self.assertGreater(value_at(plan, one), value_at(plan, other))

    def test_plans_of_one_unknown(self):
        for seed in range(100):
            self.check(any_plan(seed, 1, 3, form_leaf, 3), 1)

    def test_plans_of_two_unknowns(self):
        for seed in range(40):
            self.check(any_plan(seed, 2, 3, form_leaf, 2), 2)

    def test_plans_that_seldom_fall(self):
        def leaf(chance, unknowns):
            return (chance.randint(-3, 3), chance.randint(0, 2), chance.randint(0, 1), 0)

        told = set()
        for seed in range(60):
            plan = any_plan(seed, 2, 2, leaf, 1)
            self.check(plan, 2)
            told.update(read(plan, 2).falls(k) is None for k in range(2))
        self.assertEqual(told, {True, False})

    def test_kinds(self):
        step = Asker(2).read(lambda ask, x: 1 if ask(x[0] > 0) else 0)
        self.assertIsNone(step.leans(1))
        self.assertIsNone(step.falls(0))
        self.assertIsNone(step.falls(1))
        self.assertIsNotNone(step.leans(0))
        self.assertIsNotNone((-step).falls(0))
        self.assertIsNone((-step).falls(k=1))
        dot = Asker(1).read(lambda ask, x: x[0] + 1 if ask(x[0] >= 0) and ask(x[0] <= 0) else 0)
        for pieces in (dot, -dot):
            self.assertIsNotNone(pieces.leans(k=0))
            one, other = self.check_pair(pieces.falls(0))
            self.assertIn(0, (one[0], other[0]))

    def test_on_a_thin_face_alone(self):
        thin = Asker(2).read(lambda ask, x: x[0] if ask(x[1] >= 5) and ask(x[1] <= 5) else 0)
        one, other = self.check_pair(thin.leans(0))
        self.assertEqual((one[1], other[1]), (5, 5))
        self.assertIsNone(thin.falls(0))
        one, other = self.check_pair((-thin).falls(0))
        self.assertEqual((one[1], other[1]), (5, 5))
        self.assertIsNotNone(thin.falls(1))

    def test_errors(self):
        for asking in (Pieces.leans, Pieces.falls):
            for k in (0, 5, None):
                with self.assertRaises(BadCount) as caught:
                    asking(Pieces.of_term(3, X), k)
                self.assertEqual(caught.exception.value, 3)
            for count, bad in ((1, (1, -1, True, None, Share(0), "0")), (2, (2, -1, False))):
                for k in bad:
                    with self.assertRaises(NoUnknown) as caught:
                        asking(Pieces.of_term(count, X), k)
                    self.assertIs(caught.exception.k, k)


class OneTermTest(Checked):

    def test_plans(self):
        many = 0
        for seed in range(60):
            unknowns = 1 + seed % 2
            plan = any_plan(seed, unknowns, 2, lambda chance, count: chance.choice(((1, 2, 0, 0), (1, 2, 0, 0), 3)), 2)
            points = points_of([*forms_of(plan), *gaps_of(plan)], unknowns)
            forms = [form for form in {whole(value) for value in ends_of(plan)}
                     if all(value_at(plan, point) == worth(form, point) for point in points)]
            told = read(plan, unknowns).one_term()
            if not forms:
                self.assertIsNone(told)
                continue
            many += 1
            form = forms[0]
            self.assertIs(type(told), Term)
            self.assertEqual(told, form[0] + form[1] * X + form[2] * Y + form[3] * Z)
        self.assertGreater(many, 5)

    def test_kinds(self):
        p = abs(Pieces.of_term(2, X - Y))
        self.assertIsNone(p.one_term())
        self.assertEqual((p - p).one_term(), Term.constant(0))
        self.assertEqual((p + X - p).one_term(), X - 0)
        self.assertEqual(((p & Y) + (p | Y) - p).one_term(), Y - 0)
        self.assertEqual(Pieces.of_term(3, Z.over(3) + HALF).one_term(), Z.over(3) + HALF)
        self.assertEqual(Pieces.of_term(3, 2).one_term(), Term.constant(2))
        thin = Asker(2).read(lambda ask, x: 1 if ask(x[0] >= 0) and ask(x[0] <= 0) else 0)
        self.assertIsNone(thin.one_term())
        same = Asker(2).read(lambda ask, x: x[1] if ask(x[0] >= x[1]) and ask(x[0] <= x[1]) else x[0])
        self.assertEqual(same.one_term(), X - 0)


if __name__ == "__main__":
    unittest.main()
