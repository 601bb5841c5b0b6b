"""Points 17 and 31: what askers are made with, and what they tell of themselves."""

import unittest

from lessways.asking import Asker
from lessways.errors import BadCount, BadLimit, Nothing, NotRow, NoUnknown
from lessways.shares import Share
from lessways.terms import Term

X, Y, Z = [Term.unknown(k) for k in range(3)]


class MakingTest(unittest.TestCase):

    def refused(self, error, *told, **more):
        with self.assertRaises(error) as caught:
            Asker(*told, **more)
        return caught.exception

    def test_what_it_was_made_with(self):
        asker = Asker(2)
        self.assertEqual((asker.unknowns, asker.deepest, asker.most), (2, 8, 400))
        self.assertEqual((asker.calls, asker.asks), (0, 0))
        asker = Asker(unknowns=3, given=[X > 0], deepest=12, most=2000)
        self.assertEqual((asker.unknowns, asker.deepest, asker.most), (3, 12, 2000))
        asker = Asker(1, given=(X > 0,), most=1, deepest=1)
        self.assertEqual((asker.unknowns, asker.deepest, asker.most, asker.calls, asker.asks), (1, 1, 1, 0, 0))
        for name in ("unknowns", "deepest", "most", "calls", "asks"):
            self.assertIn(name, vars(asker))

    def test_limits_are_by_name_only(self):
        with self.assertRaises(TypeError):
            Asker(1, [])

    def test_bad_count(self):
        for value in (0, 4, -1, 10 ** 12, True, False, None, "2", Share(2), 2.0, [1], (1, 2)):
            self.assertIs(self.refused(BadCount, value).value, value)

    def test_not_row(self):
        for thing in (True, False, 0, None, "row", X, Share(1), [X > 0], (X > 0, True)):
            self.assertIs(self.refused(NotRow, 1, given=[X > 0, thing]).thing, thing)

    def test_no_unknown_is_the_least_one(self):
        self.assertEqual(self.refused(NoUnknown, 1, given=[X > 0, Z > Y]).k, 1)
        self.assertEqual(self.refused(NoUnknown, 1, given=[X > Z]).k, 2)
        self.assertEqual(self.refused(NoUnknown, 2, given=[X > Y, Z > 0]).k, 2)
        Asker(2, given=[X + Z > Z])
        Asker(3, given=[X + Z > Y])

    def test_thing_by_thing(self):
        self.assertEqual(self.refused(NoUnknown, 1, given=[Y > 0, None]).k, 1)
        self.assertEqual(self.refused(NotRow, 1, given=[None, Y > 0]).thing, None)

    def test_nothing_counts(self):
        for rows in ([X > 0, X < 0], (X > X,), [X >= 1, Y >= 1, X + Y < 2], [Term.constant(-1) > 0],
                     [X > 0, X < 0, Y > 0], (X < X, Y > 0, X > 3)):
            told = self.refused(Nothing, 2, given=rows).rows
            self.assertIs(type(told), list)
            self.assertIsNot(told, rows)
            self.assertEqual(len(told), len(rows))
            self.assertTrue(all(one is other for one, other in zip(told, rows)))
        Asker(2, given=[X >= 1, Y >= 1, X + Y <= 2])

    def test_bad_limit(self):
        for value in (0, -1, 13, 10 ** 12, True, None, "3", Share(3)):
            self.assertIs(self.refused(BadLimit, 1, deepest=value).value, value)
        for value in (0, -1, 2001, 10 ** 12, False, None, "3", Share(3)):
            self.assertIs(self.refused(BadLimit, 1, most=value).value, value)

    def test_first_error_of_several(self):
        self.assertEqual(self.refused(BadCount, 0, given=[None], deepest=0, most=0).value, 0)
        self.assertEqual(self.refused(NotRow, 1, given=[X > X, None], deepest=0).thing, None)
        self.assertEqual(self.refused(NoUnknown, 1, given=[X > X, Y > 0], deepest=0).k, 1)
        self.refused(Nothing, 1, given=[X > X], deepest=0, most=0)
        self.assertEqual(self.refused(BadLimit, 1, given=[X > 0], deepest=13, most=0).value, 13)
        self.assertEqual(self.refused(BadLimit, 1, given=[X > 0], deepest=12, most=0).value, 0)

    def test_the_given_list_is_the_callers(self):
        rows = [X > 0]
        asker = Asker(1, given=rows)
        rows.clear()
        self.assertIs(asker.every(lambda ask, x: ask(x[0] > -1)), True)
        rows.append(X > 5)
        self.assertIs(asker.every(lambda ask, x: ask(x[0] > 4)), False)
        given = [X > 0, X > 1]
        Asker(1, given=given)
        self.assertEqual(given, [X > 0, X > 1])


class CountsTest(unittest.TestCase):

    def test_behind_each_asking(self):
        asker = Asker(2)

        def code(ask, x):
            ask(True)
            ask(x[0] > x[0])
            if ask(x[0] > 0):
                return ask(x[1] > 0)
            return False

        asker.tree(code)
        self.assertEqual((asker.calls, asker.asks), (3, 5))
        asker.way(code, (1, 1))
        self.assertEqual((asker.calls, asker.asks), (4, 7))
        asker.room(code, [-1], 0)
        self.assertEqual((asker.calls, asker.asks), (5, 8))
        asker.parting(code, code)
        self.assertEqual((asker.calls, asker.asks), (8, 13))
        asker.some(lambda ask, x: True)
        self.assertEqual((asker.calls, asker.asks), (9, 13))

    def test_within_a_run(self):
        asker = Asker(1)
        told = []

        def code(ask, x):
            told.append((asker.calls, asker.asks))
            ask(x[0] > 0)
            told.append((asker.calls, asker.asks))

        asker.tree(code)
        self.assertEqual(told, [(1, 0), (1, 1), (2, 1), (2, 2)])

    def test_of_askings_that_end_with_an_error(self):
        asker = Asker(1, most=1)

        def code(ask, x):
            ask(x[0] > 0)
            raise KeyError("mine")

        with self.assertRaises(KeyError):
            asker.tree(code)
        self.assertEqual((asker.calls, asker.asks), (1, 1))
        with self.assertRaises(ValueError):
            asker.span(lambda ask, x: ask(x[0] > 0))
        self.assertEqual((asker.calls, asker.asks), (2, 2))

    def test_a_run_that_is_not_begun_does_not_count(self):
        asker = Asker(1, most=1, given=[X > 0])
        with self.assertRaises(ValueError):
            asker.tree(lambda ask, x: ask(x[0] > 1))
        self.assertEqual((asker.calls, asker.asks), (1, 1))
        with self.assertRaises(ValueError):
            asker.way(lambda ask, x: True, (0,))
        with self.assertRaises(ValueError):
            asker.room(lambda ask, x: True, (1,), 1)
        with self.assertRaises(ValueError):
            asker.read(lambda ask, x: 1)
        self.assertEqual((asker.calls, asker.asks), (1, 1))


if __name__ == "__main__":
    unittest.main()
