"""Terms: a number plus multiples of the unknown numbers 0, 1 and 2."""

from lessways.errors import NoShare, NotStraight, NoUnknown
from lessways.rows import Row
from lessways.shares import Share, is_integer, is_number, share_of

UNKNOWNS = 3


def term_of(thing):
    """The term that a term or a number is; None of any other thing."""
    if isinstance(thing, Term):
        return thing
    if is_number(thing):
        return Term.constant(thing)
    return None


class Term:
    """A number, and a tuple of three multiples, one for each unknown, all of them shares."""

    def __init__(self, number, times):
        self.number = number
        self.times = times

    @staticmethod
    def unknown(k):
        """Unknown number k."""
        if not is_integer(k) or k < 0 or k >= UNKNOWNS:
            raise NoUnknown(k)
        return Term(Share(0), tuple([Share(1 if at == k else 0) for at in range(UNKNOWNS)]))

    @staticmethod
    def constant(number):
        """A number alone."""
        return Term(share_of(number), (Share(0), Share(0), Share(0)))

    def over(self, number):
        """This term divided by a number."""
        if number == 0:
            raise NoShare(0)
        return self * Share(1).over(number)

    def at(self, point):
        """The share that this term is at a point."""
        total = self.number
        for times, worth in zip(self.times, point):
            total = total + times * worth
        return total

    def __add__(self, other):
        right = term_of(other)
        if right is None:
            return NotImplemented
        return Term(self.number + right.number, tuple([a + b for a, b in zip(self.times, right.times)]))

    def __radd__(self, other):
        left = term_of(other)
        if left is None:
            return NotImplemented
        return left + self

    def __sub__(self, other):
        right = term_of(other)
        if right is None:
            return NotImplemented
        return Term(self.number - right.number, tuple([a - b for a, b in zip(self.times, right.times)]))

    def __rsub__(self, other):
        left = term_of(other)
        if left is None:
            return NotImplemented
        return left - self

    def __mul__(self, other):
        if isinstance(other, Term):
            raise NotStraight(self, other)
        if not is_number(other):
            return NotImplemented
        return Term(self.number * other, tuple([times * other for times in self.times]))

    def __rmul__(self, other):
        if not is_number(other):
            return NotImplemented
        return self * other

    def __neg__(self):
        return self * -1

    def __eq__(self, other):
        return isinstance(other, Term) and self.number == other.number and self.times == other.times

    def __lt__(self, other):
        right = term_of(other)
        if right is None:
            return NotImplemented
        return Row(right - self, True)

    def __le__(self, other):
        right = term_of(other)
        if right is None:
            return NotImplemented
        return Row(right - self, False)

    def __gt__(self, other):
        right = term_of(other)
        if right is None:
            return NotImplemented
        return Row(self - right, True)

    def __ge__(self, other):
        right = term_of(other)
        if right is None:
            return NotImplemented
        return Row(self - right, False)
