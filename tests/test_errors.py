"""Points 5 and 50: the errors, their parameters and their attributes."""

import unittest

from lessways import errors
from lessways.errors import LessError

PARAMETERS = {
    "NoShare": ("top",),
    "NoUnknown": ("k",),
    "NotStraight": ("left", "right"),
    "NotRow": ("thing",),
    "Nothing": ("rows",),
    "NotCounted": ("point",),
    "BadCount": ("value",),
    "BadLimit": ("value",),
    "TooDeep": ("path",),
    "TooMany": ("path",),
    "Wavers": ("path",),
    "Stale": ("row",),
    "NotTruth": ("path",),
    "NotNumber": ("path",),
    "HasGiven": ("rows",),
    "UnlikeCounts": ("one", "other"),
}


class Sullen:
    """An object that cannot be put into words, compared or tested."""

    def __repr__(self):
        raise RuntimeError("no words")

    __str__ = __bool__ = __eq__ = __len__ = __hash__ = __repr__


def objects():
    """Objects of many kinds to make errors of."""
    return [0, -7, 10 ** 5000, True, None, 1.5, "", "a text {0} {}", b"bytes", (), (1, (2, None)), [], [1, [2]],
            {"a": 1}, {1, 2}, object(), Sullen(), ValueError("inner"), int, len]


class ErrorsTest(unittest.TestCase):

    def test_the_errors_are_these(self):
        found = {name for name, value in vars(errors).items() if isinstance(value, type)}
        self.assertEqual(found, set(PARAMETERS) | {"LessError"})

    def test_base(self):
        self.assertEqual(LessError.__bases__, (ValueError,))

    def test_each_is_directly_under_the_base(self):
        for name in PARAMETERS:
            self.assertEqual(getattr(errors, name).__bases__, (LessError,), name)

    def made(self):
        """Each error of each object, made by place and made by name, with its parameters and what they were."""
        for name, parameters in PARAMETERS.items():
            for thing in objects():
                for turn in (0, 1):
                    things = [thing, "another"][:len(parameters)]
                    if turn == 1:
                        things.reverse()
                    told = dict(zip(parameters, things))
                    made = getattr(errors, name)
                    yield name, made(*things), told
                    yield name, made(**told), told
                    yield name, made(**dict(reversed(told.items()))), told

    def test_attributes_hold_the_very_objects(self):
        for name, error, told in self.made():
            for parameter, thing in told.items():
                self.assertIs(getattr(error, parameter), thing, (name, parameter))

    def test_what_each_one_is(self):
        for name, error, _ in self.made():
            self.assertIsInstance(error, ValueError)
            self.assertIsInstance(error, LessError)
            for other in PARAMETERS:
                self.assertEqual(isinstance(error, getattr(errors, other)), other == name)

    def test_words_can_be_told_of_any_object(self):
        for _, error, _ in self.made():
            self.assertIsInstance(str(error), str)
            self.assertIsInstance(repr(error), str)

    def test_lists_hold_what_they_held(self):
        rows = [1, 2]
        for name in ("Nothing", "HasGiven"):
            self.assertEqual(getattr(errors, name)(rows).rows, [1, 2])
        self.assertEqual(rows, [1, 2])

    def test_raised_and_caught(self):
        for name, parameters in PARAMETERS.items():
            made = getattr(errors, name)
            for kind in (made, LessError, ValueError):
                with self.assertRaises(kind) as caught:
                    raise made(*parameters)
                for parameter in parameters:
                    self.assertEqual(getattr(caught.exception, parameter), parameter)

    def test_wrong_counts_of_arguments(self):
        for name, parameters in PARAMETERS.items():
            made = getattr(errors, name)
            with self.assertRaises(TypeError):
                made()
            with self.assertRaises(TypeError):
                made(*parameters, "more")
            with self.assertRaises(TypeError):
                made(**dict.fromkeys(parameters), more=1)

    def test_two_of_a_kind_keep_their_own(self):
        for name, parameters in PARAMETERS.items():
            made = getattr(errors, name)
            first = made(*[1 for _ in parameters])
            second = made(*[2 for _ in parameters])
            for parameter in parameters:
                self.assertEqual((getattr(first, parameter), getattr(second, parameter)), (1, 2))


if __name__ == "__main__":
    unittest.main()
