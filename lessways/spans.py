"""Spans: how small and how great terms are in cells."""

from lessways.cells import changes, opposite, shares_of, worths
from lessways.mending import integers_of
from lessways.rows import scale
from lessways.shares import Share


def top_of(cell, term):
    """The pair (share, reached) of the least share that a term is not above in a cell; None without end."""
    by = scale(term)
    numbers = integers_of(term * by)
    if changes(worths(numbers, cell.lines)):
        return None
    best, whole = None, 0
    told = worths(numbers, cell.places)
    for place, worth in zip(cell.places, told):
        if place[0] == 0 and worth > 0:
            return None
        if place[0] > 0 and (best is None or worth * whole > best * place[0]):
            best, whole = worth, place[0]
    common = cell.strict
    for place, worth, mask in zip(cell.places, told, cell.masks):
        if worth * whole == best * place[0]:
            common = common & mask
    return Share(best, whole).over(by), common == 0


def greater(one, other):
    """What is not above neither of two tops, as one top."""
    if one is None or other is None:
        return None
    if one[0] == other[0]:
        return one[0], one[1] or other[1]
    return one if one[0] > other[0] else other


def spanned(parts):
    """The pair (least, greatest) of pairs (cell, term), at least one: what all terms are in their cells."""
    tops, depths = [], []
    for cell, term in parts:
        tops.append(top_of(cell, term))
        depths.append(top_of(cell, -term))
    high, depth = tops[0], depths[0]
    for top, other in zip(tops, depths):
        high = greater(high, top)
        depth = greater(depth, other)
    low = None if depth is None else (-depth[0], depth[1])
    return low, high


def climb(cell, term):
    """A direction in which a cell goes on and a term grows without end; None if there is none."""
    numbers = integers_of(term * scale(term))
    for line, slope in zip(cell.lines, worths(numbers, cell.lines)):
        if slope != 0:
            return shares_of(line if slope > 0 else opposite(line))
    for place, worth in zip(cell.places, worths(numbers, cell.places)):
        if place[0] == 0 and worth > 0:
            return shares_of(place)
    return None
