"""Rows together, reckoned in another way: by leaving out one unknown behind the other, with fractions."""

from fractions import Fraction

from tests.helpers import fields


def without(told, k):
    """What is left of (numbers, strict) pairs, number k of which may be anything."""
    found = {}
    pairs = [(numbers, strict) for numbers, strict in told if numbers[k] == 0]
    for up, one in [pair for pair in told if pair[0][k] > 0]:
        for down, other in [pair for pair in told if pair[0][k] < 0]:
            pairs.append(([a * -down[k] + b * up[k] for a, b in zip(up, down)], one or other))
    for numbers, strict in pairs:
        size = max(abs(number) for number in numbers) or 1
        key = tuple(number / size for number in numbers)
        found[key] = found.get(key, False) or strict
    return [(list(numbers), strict) for numbers, strict in found.items()]


def bounds(rows, term):
    """(least, greatest) as the package tells them, with fractions; None if the rows hold nowhere together."""
    number, *times = fields(term)
    # The term's worth is one more unknown, and the last one that is left.
    told = [([*fields(row.term), Fraction(0)], row.strict) for row in rows]
    told.append(([number, *times, Fraction(-1)], False))
    told.append(([-number, *[-share for share in times], Fraction(1)], False))
    for k in (1, 2, 3):
        told = without(told, k)
    lows, highs = [], []
    for numbers, strict in told:
        if numbers[4] == 0 and (numbers[0] < 0 or strict and numbers[0] == 0):
            return None
        if numbers[4] > 0:
            lows.append((-numbers[0] / numbers[4], strict))
        if numbers[4] < 0:
            highs.append((-numbers[0] / numbers[4], strict))
    low = max(lows, default=None)
    high = min(highs, default=None, key=lambda pair: (pair[0], not pair[1]))
    if low and high and (low[0] > high[0] or low[0] == high[0] and (low[1] or high[1])):
        return None
    return low and (low[0], not low[1]), high and (high[0], not high[1])
