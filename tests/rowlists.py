"""Lists of rows for the tests of what rows are together, each with whether they hold together."""

import random

from lessways.shares import Share
from lessways.terms import Term

X, Y, Z = [Term.unknown(k) for k in range(3)]
GREAT = 10 ** 12 - 1
NEAR = Share(1, 10 ** 12)
ONE = Term.constant(1)

HOLD = [
    [],
    [X > 0],
    [X >= 0, X <= 0],
    [X > 3, X > 3],
    [ONE > 0],
    [X >= X],
    [ONE > 0, X + 1 > X, Y < -5],
    [X > Y, Y > Z],
    [X > 0, Y > 0, X + Y < NEAR],
    [X >= 5, X <= 5, Y >= -2, Y <= -2, Z >= Share(1, 3), Z <= Share(1, 3)],
    [X + Y + Z >= 6, X - Y >= 0, Y - Z >= 0, X <= 2, Y <= 2, Z <= 2],
    [X + Y >= 2, X - Y >= 0, X <= 1],
    [GREAT * X > GREAT - 1, X < 1],
    [X > Share(GREAT, GREAT - 1), X < Share(GREAT - 1, GREAT - 2)],
    [X - Y >= 0, Y - Z >= 0, Z - X >= 0],
    [X - Y >= 0, Y - Z >= 0, Z - X + NEAR > 0],
    [X > 10 ** 6, Y > GREAT * X, Z > GREAT * Y],
    [X < 0, Y < X, Z < Y, X + Y + Z > -NEAR],
    [X + Y + Z > k for k in range(24)],
    [X >= Y, X <= Y, X >= Z, X <= Z, X > 4, X < 5],
]

NOWHERE = [
    [X > X],
    [ONE < 0],
    [ONE <= 0, X > 1],
    [X > 0, X <= 0],
    [X > 0, X < 0],
    [X >= 0, X < 0],
    [X > 3, X <= 3, X > 3],
    [X > Y, Y > Z, Z > X],
    [X >= Y, Y >= Z, Z > X],
    [X > Y, Y >= Z, Z >= X],
    [X >= Y, Y >= Z, Z - X - NEAR >= 0],
    [X > 0, Y > 0, X + Y < 0],
    [X > 0, Y > 0, X + Y <= 0],
    [X >= 5, X <= 5, Y >= -2, Y <= -2, Z >= Share(1, 3), Z < Share(1, 3)],
    [X + Y + Z > 6, X - Y >= 0, Y - Z >= 0, X <= 2, Y <= 2, Z <= 2],
    [X + Y + Z >= 6 + NEAR, X - Y >= 0, Y - Z >= 0, X <= 2, Y <= 2, Z <= 2],
    [X + Y >= 2, X - Y >= 0, X < 1],
    [X > Share(GREAT - 1, GREAT - 2), X < Share(GREAT, GREAT - 1)],
    [X > 10 ** 6, Y > GREAT * X, Y <= GREAT],
    [*[X + Y + Z > k for k in range(23)], X + Y + Z < Share(45, 2) - Share(1, 2)],
]


def around(chance, bare):
    """Rows that hold at a point, some of them just so."""
    point = [Share(chance.randint(-GREAT, GREAT), chance.randint(1, GREAT)) for k in range(3)]
    rows = []
    for at in range(chance.randint(4, 24)):
        times = [chance.choice((0, 1, -2, Share(-5, 3), GREAT)) for k in range(3)]
        term = times[0] * X + times[1] * Y + times[2] * Z
        term = term - term.at(point) + chance.choice((0, 0, NEAR, GREAT))
        rows.append(term > 0 if not bare and chance.random() < 0.3 else term >= 0)
    return rows


def any_rows(seed, many, size):
    """Rows of a few small numbers, or of numbers of 12 digits; the same ones for the same seed."""
    chance = random.Random(seed)
    if seed % 3 == 0:
        return around(chance, seed % 2 == 0)[:many]
    rows = []
    for at in range(many):
        if size > 9:
            numbers = [Share(chance.randint(-size, size), chance.randint(1, size)) for k in range(4)]
        else:
            numbers = [chance.randint(-size, size) for k in range(4)]
        if seed % 5 == 0:
            numbers[3] = 0
        term = numbers[0] + numbers[1] * X + numbers[2] * Y + numbers[3] * Z
        rows.append(term > 0 if chance.random() < 0.4 else term >= 0)
    return rows
