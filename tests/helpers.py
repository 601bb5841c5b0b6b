"""What several files of tests need."""

from fractions import Fraction


class Deferred:
    """An object that takes over where its other side does not know it."""

    def told(self, other):
        return "told by the other side"

    __add__ = __sub__ = __mul__ = __radd__ = __rsub__ = __rmul__ = __lt__ = __le__ = __gt__ = __ge__ = told


def fields(term):
    """The four fields of a term as fractions."""
    return [Fraction(share.top, share.bottom) for share in (term.number, *term.times)]
