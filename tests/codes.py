"""Codes for the tests, and what is expected of them, reckoned with points on all faces of what they ask.

A plan is ("leaf", value) or ("ask", form, strict, wording, no, yes): what a code asks and returns. A form is a tuple
of four integers, a number and the multiples of the unknowns; a leaf's value is a form, a truth or any other thing.
"""

import random
from fractions import Fraction

from lessways.shares import Share
from tests.faces import faces_of, worth
from tests.helpers import fields

WORDINGS = 5


def fit(value, x):
    """A value as it is reckoned with at x: a fraction of a plan is a share, but where x are fractions, too."""
    if isinstance(value, Fraction) and not isinstance(x[0], Fraction):
        return Share(value.numerator, value.denominator)
    return value


def linear(form, x):
    """A form at x: a term of terms, a number of numbers."""
    number, *multiples = [fit(part, x) for part in form]
    total = multiples[0] * x[0] + number
    for times, one in zip(multiples[1:], x[1:]):
        total = total + times * one
    return total


def compared(form, strict, wording, x):
    """That a form is above 0 (or not below it), worded in one of several ways."""
    term = linear(form, x)
    if wording == 0:
        return term > 0 if strict else term >= 0
    if wording == 1:
        return 0 < term if strict else 0 <= term
    if wording == 2:
        return term * 6 > term * 3 if strict else 6 * term >= 3 * term
    if wording == 3:
        return -term < x[0] - x[0] if strict else -term <= x[0] - x[0]
    return term + x[-1] > x[-1] if strict else x[-1] <= x[-1] + term


def is_form(value):
    return isinstance(value, tuple) and len(value) == 4


def code_of(plan):
    """The code that goes a plan."""
    def code(ask, x):
        at = plan
        while at[0] == "ask":
            at = at[5] if ask(compared(at[1], at[2], at[3], x)) else at[4]
        return linear(at[1], x) if is_form(at[1]) else fit(at[1], x)
    return code


def value_at(plan, point):
    """What a plan tells at a point of fractions."""
    at = plan
    while at[0] == "ask":
        share = worth(at[1], point)
        at = at[5] if share > 0 or share == 0 and not at[2] else at[4]
    return worth(at[1], point) if is_form(at[1]) else at[1]


def forms_of(plan):
    """The forms that a plan asks."""
    if plan[0] == "leaf":
        return []
    return [plan[1], *forms_of(plan[4]), *forms_of(plan[5])]


def ends_of(plan):
    """The values of all leaves of a plan."""
    if plan[0] == "leaf":
        return [plan[1]]
    return [*ends_of(plan[4]), *ends_of(plan[5])]


def form_of(row):
    """The form of a row's term, with fractions."""
    return tuple(fields(row.term))


def same_row(row, form, strict):
    """Whether a row says that a form is above 0, or not below it."""
    told = form_of(row)
    by = [a / b for a, b in zip(told, form) if b != 0]
    alike = all(a == by[0] * b for a, b in zip(told, form)) and by[0] > 0 if by else not any(told)
    return alike and row.strict is strict


def told_points(plan, unknowns, given=()):
    """Points that count, on all faces of the rows that a plan asks, and of given rows."""
    points = faces_of([*forms_of(plan), *[form_of(row) for row in given]], unknowns)
    return [point for point in points if all(holds(row, point) for row in given)]


def holds(row, point):
    """Whether a row holds at a point of fractions."""
    share = worth(form_of(row), point)
    return share > 0 or share == 0 and not row.strict


class Expected:
    """A run: its asks as (form, strict, answer, recorded), its value and the points that go its way."""

    def __init__(self, asks, value, points):
        self.asks = asks
        self.value = value
        self.points = points
        self.path = [ask for ask in asks if ask[3]]


def runs_of(plan, points, asks=()):
    """The runs of a plan, in their order, if the points are on all faces of its rows."""
    if plan[0] == "leaf":
        return [Expected(list(asks), plan[1], points)]
    _, form, strict, _, no, yes = plan
    high = [point for point in points if worth(form, point) > 0 or worth(form, point) == 0 and not strict]
    low = [point for point in points if point not in high]
    if not low or not high:
        return runs_of(yes if high else no, points, (*asks, (form, strict, bool(high), False)))
    return [*runs_of(no, low, (*asks, (form, strict, False, True))),
            *runs_of(yes, high, (*asks, (form, strict, True, True)))]


def any_form(chance, unknowns, size=4):
    """A form of so many unknowns; now and then one without any of them."""
    return tuple(chance.randint(-size, size) if k <= unknowns else 0 for k in range(4))


def any_plan(seed, unknowns, asks, leaf, pool=None):
    """A plan of a few forms that come up again and again; the same one for the same seed.

    leaf makes the value of a leaf, of the chance and the number of unknowns.
    """
    chance = random.Random(seed)
    forms = [any_form(chance, unknowns) for _ in range(pool or asks)]

    def grown(deep):
        if deep == 0 or chance.random() < 0.1:
            return ("leaf", leaf(chance, unknowns))
        form = chance.choice(forms)
        if chance.random() < 0.3:
            form = tuple(-number for number in form)
        return ("ask", form, chance.random() < 0.5, chance.randrange(WORDINGS), grown(deep - 1), grown(deep - 1))

    return grown(asks)


def truth_leaf(chance, unknowns):
    return chance.random() < 0.5


def form_leaf(chance, unknowns):
    """A form, or a number alone, of integers or of fractions."""
    bottom = chance.choice((1, 1, 2, 3, 6))
    if chance.random() < 0.3:
        return over(chance.randint(-3, 3), bottom)
    return tuple(over(number, bottom) for number in any_form(chance, unknowns, 2))


def over(number, bottom):
    """An integer divided by another one; an integer if it is divided by 1."""
    return number if bottom == 1 else Fraction(number, bottom)


def flat(value):
    """A told share, or a tuple of them, as fractions."""
    if isinstance(value, Share):
        return Fraction(value.top, value.bottom)
    return tuple(flat(part) for part in value)


def called_plain(code, point):
    """What a code returns that is called with fractions, without the package."""
    def ask(truth):
        assert isinstance(truth, bool), truth
        return truth
    return code(ask, tuple(point))
