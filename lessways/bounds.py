"""Bounds: how great and how small a term can be where rows hold together."""

from lessways.errors import Nothing
from lessways.mending import cone, integers_of, point_of
from lessways.rows import scale
from lessways.shares import Share
from lessways.tables import grows, first_table, solved
from lessways.terms import term_of


def checked_point(rows):
    """A point at which all rows hold."""
    point = point_of(rows)
    if point is None:
        raise Nothing(list(rows))
    return point


def peak(rows, term):
    """The least share that a term is not above where rows that hold together hold; None if there is none.

    Strict rows need no look of their own: beside each point at which only they fail to hold are points at
    which all rows hold.
    """
    by = scale(term)
    sums = [integers_of(row.term) for row in rows]
    table, i, j = solved(first_table(sums, integers_of(term * by)))
    if grows(table, j):
        return None
    return Share(table.cells[-1][0], table.whole).over(by)


def greatest(rows, term):
    """The pair (share, reached) of the least share that a term is not above; None if it grows without end."""
    sought = term_of(term)
    checked_point(rows)
    worth = peak(rows, sought)
    if worth is None:
        return None
    return worth, point_of([*rows, sought >= worth]) is not None


def least(rows, term):
    """The pair (share, reached) of the greatest share that a term is not below; None if it falls without end."""
    found = greatest(rows, -term)
    if found is None:
        return None
    worth, reached = found
    return -worth, reached


def endless(rows, term):
    """None if a term has a greatest worth; else a point and a direction in which it grows without end."""
    sought = term_of(term)
    point = checked_point(rows)
    ways = [integers_of(row.term)[1:] for row in rows]
    climb = integers_of(sought * scale(sought))[1:]
    amounts, weights = cone([*ways, climb], [*[False for way in ways], True])
    if amounts is None:
        return None
    return point, tuple([Share(amount) for amount in amounts])
