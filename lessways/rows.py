"""Rows: what a comparison of terms says.

This file knows terms by their fields and operators alone: terms make the rows, so it cannot import them.
"""

from lessways.shares import Share, divisor


def scale(term):
    """The least positive share that makes a term's number and multiples integers without a common divisor.

    A term that is 0 has none; for it this is 1.
    """
    top = 0
    bottom = 1
    for share in [term.number, *term.times]:
        top = divisor(top, share.top)
        bottom = bottom * share.bottom // divisor(bottom, share.bottom)
    if top == 0:
        return Share(1)
    return Share(bottom, top)


class Row:
    """Says that a term is above 0 (strict), or that it is not below 0.

    Callers make rows by comparing terms.
    """

    def __init__(self, term, strict):
        by = scale(term)
        self.term = term if by == 1 else term * by
        self.strict = strict

    def holds(self, point):
        """Whether this row is so at a point."""
        worth = self.term.at(point)
        if self.strict:
            return worth > 0
        return worth >= 0

    def __invert__(self):
        return Row(-self.term, not self.strict)

    def __eq__(self, other):
        return isinstance(other, Row) and self.strict == other.strict and self.term == other.term
