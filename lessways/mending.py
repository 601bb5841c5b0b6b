"""Rows together: a point at which they all hold, or weights that show that there is none."""

from lessways.shares import Share, divisor
from lessways.tables import first_table, solved, worth_of


def integers_of(term):
    """The number and the multiples of a row's term, which are integers."""
    return [share.top for share in (term.number, *term.times)]


def lowered(numbers):
    """Integers, not all of them 0, divided by their greatest common divisor."""
    common = 0
    for number in numbers:
        common = divisor(number, common)
    return [number // common for number in numbers]


def weights_in(table, i, many):
    """The weights of many sums under which they add up to less than they must be.

    In row i the side is below 0, and no head has a cell above 0 there: the side, plus the heads times the
    contraries of their cells, is a number below 0.
    """
    weights = [0] * many
    for mark, cell in zip(table.heads, table.cells[i]):
        if mark >= 0:
            weights[mark] = -cell
    weights[table.sides[i]] = table.whole
    return lowered(weights)


def cone(sums, stricts):
    """A pair (amounts, weights), one of them None.

    Each sum is a list of multiples of amounts. amounts are integers at which the strict sums are above 0 and
    the others not below 0; if there are none, weights are integers not below 0, that of some strict sum above
    it, by which the sums add up to nought whatever the amounts are.
    """
    # What is above 0 may as well be at least 1, since amounts may be multiplied.
    raised = [[-1 if strict else 0, *multiples] for multiples, strict in zip(sums, stricts)]
    size = len(sums[0])
    table, i, j = solved(first_table(raised, [0] * (size + 1)))
    if i is not None:
        return None, weights_in(table, i, len(sums))
    return lowered([worth_of(table, k) for k in range(size)]), None


def answer_of(rows):
    """The pair that cone tells of the rows, ahead of them the sum that the number 1 is above 0."""
    # A point is a number of parts for each unknown, and how many parts make 1.
    sums = [[1, 0, 0, 0], *[integers_of(row.term) for row in rows]]
    return cone(sums, [True, *[row.strict for row in rows]])


def point_of(rows):
    """A point at which all rows hold, or None if there is none."""
    amounts, weights = answer_of(rows)
    if amounts is None:
        return None
    return tuple([Share(amount, amounts[0]) for amount in amounts[1:]])


def weights_of(rows):
    """None if the rows hold together at a point; else weights under which their terms show that they do not."""
    amounts, weights = answer_of(rows)
    if weights is None:
        return None
    return lowered(weights[1:])
