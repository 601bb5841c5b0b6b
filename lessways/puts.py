"""Puts: terms and other sums in the place of the unknowns of a sum."""

from lessways.cells import forks
from lessways.mending import integers_of
from lessways.overlays import grown
from lessways.rows import Row
from lessways.shares import Share, divisor
from lessways.sums import behind, first_row, settled
from lessways.terms import Term
from lessways.trees import term_at


class Places:
    """Terms in the place of unknowns; whole times each of them has the four integers of a list in numbers."""

    def __init__(self, terms):
        self.terms = terms
        self.whole = whole_of(terms)
        self.numbers = [integers_of(term * self.whole) for term in terms]


def whole_of(terms):
    """The least integer above 0 by which all terms have integers alone."""
    whole = 1
    for term in terms:
        for share in (term.number, *term.times):
            whole = whole * share.bottom // divisor(whole, share.bottom)
    return whole


def row_put(row, places):
    """A row with terms in the place of its unknowns.

    This is asked so often that the integers of the row and of the terms are multiplied, and no terms.
    """
    number, *times = integers_of(row.term)
    found = [number * places.whole, 0, 0, 0]
    for by, numbers in zip(times, places.numbers):
        if by != 0:
            found = [one + by * other for one, other in zip(found, numbers)]
    shares = [Share(one) for one in found]
    return Row(Term(shares[0], tuple(shares[1:])), row.strict)


def put_down(cell, total, places):
    """The tree of a sum with terms in the place of its unknowns."""
    first = settled(total)
    if not first[1]:
        return ("leaf", term_at(first[0], places.terms))
    row = row_put(first_row(first), places)
    return grown(row, [put_down(part, behind(first, answer), places) for answer, part in forks(cell, row)])


def put_in(cell, total, terms, others):
    """The tree of a sum with terms, and then other sums, in the place of its unknowns."""
    if not others:
        return put_down(cell, total, Places(terms))
    first = settled(others[0])
    rest = others[1:]
    if not first[1]:
        return put_in(cell, total, [*terms, first[0]], rest)
    row = first_row(first)
    return grown(row, [put_in(part, total, terms, [behind(first, answer), *rest])
                       for answer, part in forks(cell, row)])
