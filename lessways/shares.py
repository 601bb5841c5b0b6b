"""Shares: exact fractions of two integers."""

from lessways.errors import NoShare


def is_integer(thing):
    """Whether a thing is an int that is not a bool."""
    return isinstance(thing, int) and not isinstance(thing, bool)


def is_number(thing):
    """Whether a thing is an integer or a share."""
    return isinstance(thing, Share) or is_integer(thing)


def share_of(number):
    """The share that a number is."""
    if isinstance(number, Share):
        return number
    return Share(number)


def fraction(number):
    """The pair of the top and the bottom of a number."""
    if isinstance(number, Share):
        return number.top, number.bottom
    return number, 1


def divisor(one, other):
    """The greatest common divisor of two integers; that of 0 and 0 is 0."""
    while other != 0:
        one, other = other, one % other
    return abs(one)


def excess(share, number):
    """An integer that is above, at or below 0 as share - number is."""
    top, bottom = fraction(number)
    return share.top * bottom - top * share.bottom


def digits(number):
    """The decimal digits of an integer, however many it has, with its sign."""
    # Python's own str raises an error beyond a few thousand digits, so it is handed 60 of them at a time.
    size = 10 ** 60
    blocks = []
    rest = abs(number)
    while rest >= size:
        rest, block = divmod(rest, size)
        blocks.append(str(block).zfill(60))
    blocks.append(str(rest))
    if number < 0:
        blocks.append("-")
    return "".join(blocks[::-1])


class Share:
    """The fraction top divided by bottom, kept in lowest terms with the bottom above 0."""

    def __init__(self, top, bottom=1):
        if bottom == 0:
            raise NoShare(top)
        common = 1
        if bottom != 1:
            common = divisor(top, bottom) if bottom > 0 else -divisor(top, bottom)
        self.top = top // common
        self.bottom = bottom // common

    def over(self, number):
        """This share divided by a number."""
        top, bottom = fraction(number)
        if top == 0:
            raise NoShare(self.top)
        return Share(self.top * bottom, self.bottom * top)

    def __add__(self, other):
        if not is_number(other):
            return NotImplemented
        top, bottom = fraction(other)
        return Share(self.top * bottom + top * self.bottom, self.bottom * bottom)

    def __radd__(self, other):
        if not is_number(other):
            return NotImplemented
        return self + other

    def __sub__(self, other):
        if not is_number(other):
            return NotImplemented
        return Share(excess(self, other), self.bottom * fraction(other)[1])

    def __rsub__(self, other):
        if not is_number(other):
            return NotImplemented
        return share_of(other) - self

    def __mul__(self, other):
        if not is_number(other):
            return NotImplemented
        top, bottom = fraction(other)
        return Share(self.top * top, self.bottom * bottom)

    def __rmul__(self, other):
        if not is_number(other):
            return NotImplemented
        return self * other

    def __neg__(self):
        return Share(-self.top, self.bottom)

    def __abs__(self):
        return Share(abs(self.top), self.bottom)

    def __eq__(self, other):
        if not is_number(other):
            return False
        return excess(self, other) == 0

    def __lt__(self, other):
        if not is_number(other):
            return NotImplemented
        return excess(self, other) < 0

    def __le__(self, other):
        if not is_number(other):
            return NotImplemented
        return excess(self, other) <= 0

    def __gt__(self, other):
        if not is_number(other):
            return NotImplemented
        return excess(self, other) > 0

    def __ge__(self, other):
        if not is_number(other):
            return NotImplemented
        return excess(self, other) >= 0

    def __str__(self):
        if self.bottom == 1:
            return f"{digits(self.top)}"
        return f"{digits(self.top)}/{digits(self.bottom)}"
