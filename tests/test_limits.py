"""Point 6: codes, pieces and lands as great as the document allows, each question answered in good time."""

import random
import time
import unittest

from lessways.asking import Asker, called
from lessways.bounds import greatest
from lessways.lands import Land
from lessways.shares import Share
from lessways.terms import Term
from lessways.trees import asked, leaves, pruned, walk

X, Y, Z = [Term.unknown(k) for k in range(3)]
GREAT = 10 ** 12 - 1
# Slow machines need more than the second or so that the document has in mind.
PATIENCE = 20


def planes(seed, unknowns, many, size=9, truths=False):
    """A code that asks many rows, whatever the answers are, and returns a term or a truth for each way."""
    chance = random.Random(seed)
    rows = [[chance.randint(-size, size) for _ in range(unknowns + 1)] for _ in range(many)]
    told = {}

    def code(ask, x):
        way = tuple(ask(linear(row, x) > 0) for row in rows)
        if way not in told:
            told[way] = [chance.randint(-size, size) for _ in range(unknowns + 1)]
        return told[way][0] > 0 if truths else linear(told[way], x)

    return code


def linear(form, x):
    total = form[1] * x[0] + form[0]
    for times, one in zip(form[2:], x[1:]):
        total = total + times * one
    return total


def stairs(form, many):
    """A code that tells how many steps there are below a number, at most so many."""
    def code(ask, x):
        low, high = 0, many
        while high - low > 1:
            middle = (low + high) // 2
            low, high = (middle, high) if ask(linear(form, x) >= middle) else (low, middle)
        return low
    return code


class Timed(unittest.TestCase):

    def setUp(self):
        self.begun = time.perf_counter()

    def tearDown(self):
        self.assertLess(time.perf_counter() - self.begun, PATIENCE)

    def any_points(self, unknowns, many=12):
        chance = random.Random(many)
        for _ in range(many):
            yield [Share(chance.randint(-40, 40), chance.randint(1, 9)) for _ in range(unknowns)]


class AskingTest(Timed):

    def test_two_thousand_runs_of_forty_asks(self):
        def code(ask, x):
            low = stairs((0, 1), 2000)(ask, x)
            for k in range(28):
                self.assertIs(ask(x[0] >= low - k) if low else ask(x[0] < low + k + 1), True)
            return low + x[0]
        asker = Asker(1, deepest=12, most=2000, given=[X >= 0, X < 2000])
        self.assertEqual(asker.span(code), ((Share(0), True), (Share(3999), False)))
        self.assertEqual((asker.calls, asker.asks), (2000, 2000 * 11 - 48))
        self.assertEqual([answer for _, answer in asker.way(code, (1999,))], [True] * 11)

    def test_needless_asks_of_many_runs(self):
        def code(ask, x):
            low = stairs((0, 1), 200)(ask, x)
            return [ask(x[0] >= low - k) if low else ask(x[0] < low + k + 1) for k in range(28)]
        told = Asker(1, deepest=12).needless(code)
        self.assertEqual(len(told), 200 * 28)
        self.assertTrue(all(weights[-1] > 0 and len(weights) == len(path) + 1 for path, _, _, weights in told))

    def test_twelve_planes_in_three_unknowns(self):
        for size in (9, GREAT):
            code = planes(3, 3, 12, size)
            asker = Asker(3, deepest=12)
            tree = asker.tree(code)
            self.assertLessEqual(len(leaves(tree)), 1 + 12 + 66 + 220)
            self.assertGreater(len(leaves(tree)), 250)
            self.assertIsNone(asker.parting(code, asked(pruned(tree), 3)))
            for point in self.any_points(3):
                self.assertEqual(walk(tree, point).at(point), called(code, point, 3))

    def test_twenty_four_given_rows(self):
        chance = random.Random(6)
        for size in (9, GREAT):
            given = [linear([chance.randint(-size, size) for _ in range(4)], (X, Y, Z)) <= 20 * size for _ in range(24)]
            asker = Asker(3, given=given, deepest=12, most=2000)
            code = planes(8, 3, 9, 9)
            low, high = asker.span(code)
            runs = leaves(asker.tree(code))
            tops = [greatest([*given, *[row if answer else ~row for row, answer in path]], value)
                    for path, value in runs]
            self.assertEqual(high is None, None in tops)
            if high is not None:
                self.assertTrue(all(top[0] <= high[0] for top in tops))
                self.assertTrue(any(top[0] == high[0] for top in tops))
            for path, row, answer, weights in asker.needless(code):
                self.assertEqual(len(weights), 24 + len(path) + 1)


class PiecesTest(Timed):

    def read(self, unknowns):
        asker = Asker(unknowns)
        return [asker.read(planes(seed, unknowns, 6)) for seed in range(300, 305)]

    def test_five_of_them(self):
        for unknowns in (1, 2, 3):
            p, q, r, s, t = self.read(unknowns)
            high = p | q | r | s | t
            self.assertIs(high == (t | s | r | q | p), True)
            self.assertIs(abs(p) + abs(q) + abs(r) + abs(s) + abs(t) >= abs(p + q + r + s + t), True)
            total = p + q - r + s - t
            land = total.below(high)
            for point in self.any_points(unknowns):
                numbers = [one(point) for one in (p, q, r, s, t)]
                worth = numbers[0] + numbers[1] - numbers[2] + numbers[3] - numbers[4]
                self.assertTrue(any(high(point) == one for one in numbers))
                self.assertTrue(all(high(point) >= one for one in numbers))
                self.assertEqual(total(point), worth)
                self.assertIs(point in land, worth < high(point))

    def test_span_endless_and_one_term_of_five(self):
        for unknowns in (1, 2, 3):
            p, q, r, s, t = self.read(unknowns)
            low = p & q & r & s & t
            self.assertEqual(low.span()[1] is None, low.endless() is not None)
            self.assertEqual((p + q + r + s + t).endless() is None, (p + q + r + s + t).span()[1] is not None)
            self.assertIsNone((p + q + r + s + t).one_term())
            self.assertIsNotNone(low.parted(p))

    def test_put(self):
        p, q, r, s, t = self.read(3)
        put = (p | q).put([r, s, t])
        for point in self.any_points(3):
            inner = [one(point) for one in (r, s, t)]
            worth = p(inner) if p(inner) > q(inner) else q(inner)
            self.assertEqual(put(point), worth)
        self.assertIs(put >= p.put([r, s, t]), True)

    def test_where_and_lands(self):
        for unknowns in (2, 3):
            p, q, r, s, t = self.read(unknowns)
            mixed = p.where(q.below(r), s) | t
            for point in self.any_points(unknowns):
                one = p(point) if q(point) < r(point) else s(point)
                self.assertEqual(mixed(point), one if one > t(point) else t(point))

    def test_stairs_of_forty_runs(self):
        asker = Asker(2)
        p, q, r, s, t = [asker.read(stairs(form, 40)) for form in
                         ((20, 1, 0), (20, 0, 1), (20, 1, 1), (20, 2, 1), (20, 1, 2))]
        total = p + q + r + s + t
        self.assertEqual(total.span(), ((Share(0), True), (Share(39 * 5), True)))
        self.assertIsNone(total.falls(0))
        self.assertIsNotNone(total.leans(1))
        self.assertIs(total <= 39 * 5, True)
        self.assertIs((p | q | r | s | t) <= 38, False)

    def test_one_unknown_of_forty_runs(self):
        asker = Asker(1)
        p, q, r, s, t = [asker.read(stairs((k, k, 0), 40)) for k in range(1, 6)]
        total = p + q + r + s + t
        self.assertEqual(len(total.bends()), len({Share(a - k, k).top * 3600 // Share(a - k, k).bottom
                                                  for k in range(1, 6) for a in range(1, 40)}))
        self.assertEqual(len(total.jumps()), len(total.bends()))
        self.assertIsNotNone(total.twice())
        self.assertIsNone((total + X).falls(0))
        self.assertIsNone((total + X).twice())


class LandsTest(Timed):

    def test_five_of_them(self):
        for unknowns in (1, 2, 3):
            asker = Asker(unknowns)
            a, b, c, d, e = [asker.land(planes(seed, unknowns, 6, truths=True)) for seed in range(40, 45)]
            one = (a | b) - (c & ~d) ^ e
            self.assertIs(one == e ^ (a | b) - (c - d), True)
            self.assertIs(a & b & c & d & e <= a ^ b ^ c ^ d ^ e, True)
            self.assertIs((a & b) < (a | b | c), True)
            for point in self.any_points(unknowns):
                within = [point in land for land in (a, b, c, d, e)]
                self.assertIs(point in one, ((within[0] or within[1]) and not (within[2] and not within[3]))
                              != within[4])
            self.assertIsNotNone(one.one_point())
            self.assertEqual(len(one.span(X)), 2)
            self.assertIsNotNone(one.away())

    def test_twenty_four_rows(self):
        chance = random.Random(4)
        rows = [linear([0, *[chance.randint(-9, 9) for _ in range(3)]], (X, Y, Z)) <= 50 for _ in range(24)]
        land, other = Land.of_rows(3, rows), Land.of_rows(3, rows[::-1])
        self.assertIs(land == other, True)
        self.assertIs(land.is_all() or (~land).is_all(), False)
        self.assertIn(land.one_point(), land)


if __name__ == "__main__":
    unittest.main()
