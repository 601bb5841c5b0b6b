"""Tables: amounts told as sums of multiples of a few of them, all in integers.

A table is never changed: each turn makes a new one, so that operators can reckon with tables too.
"""

# Marks of heads and sides that no turn chooses. Amounts that must not be below 0 are marked by 0, 1, 2 ..
ONE = -1
GOAL = -2
FREE = -3


class Table:
    """For each row: whole times its side is the sum of its cells, each times the head of its column.

    The head of the first column is the number 1, the side of the last row is the goal. All other heads
    are at 0, so that the first column tells what the sides are. whole is above 0.
    """

    def __init__(self, cells, whole, sides, heads):
        self.cells = cells
        self.whole = whole
        self.sides = sides
        self.heads = heads


def turned(table, i, j):
    """The table in which the side of row i and the head of column j have changed places."""
    sign = 1 if table.cells[i][j] > 0 else -1
    turn = [sign * cell for cell in table.cells[i]]
    made = []
    for at, row in enumerate(table.cells):
        if at == i:
            moved = [-cell for cell in turn]
            moved[j] = sign * table.whole
        else:
            # Each cell is a determinant of the first table's cells, so the division leaves no rest.
            moved = [(turn[j] * cell - row[j] * other) // table.whole for cell, other in zip(row, turn)]
            moved[j] = sign * row[j]
        made.append(moved)
    sides = list(table.sides)
    heads = list(table.heads)
    sides[i], heads[j] = table.heads[j], table.sides[i]
    return Table(made, turn[j], sides, heads)


def least_mark(marks, fits):
    """The place of the least mark from 0 on whose place fits; None if there is none."""
    best = None
    for at, mark in enumerate(marks):
        if mark >= 0 and fits[at] and (best is None or mark < marks[best]):
            best = at
    return best


def first_table(sums, goal):
    """The table of sums that must not be below 0, and of a goal.

    Each sum, and the goal, is a list of integers: a number and the multiples of amounts that may be anything.
    Those amounts become sides, but for the ones that no sum has.
    """
    heads = [ONE, *[FREE - k for k in range(len(goal) - 1)]]
    table = Table([*sums, goal], 1, [*list(range(len(sums))), GOAL], heads)
    for j in range(1, len(heads)):
        i = least_mark(table.sides, [row[j] != 0 for row in table.cells])
        if i is not None:
            table = turned(table, i, j)
    return table


def next_turn(table):
    """The row and the column of the next turn, each None if there is none.

    Of all sides that are below 0 and all heads that would lift the goal, the one of least mark has to change
    its place, with a partner of least mark again: by this rule (the criss-cross method) no table comes back.
    """
    goal = table.cells[-1]
    i = least_mark(table.sides, [row[0] < 0 for row in table.cells])
    j = least_mark(table.heads, [cell > 0 for cell in goal])
    if i is not None and (j is None or table.sides[i] < table.heads[j]):
        return i, least_mark(table.heads, [cell > 0 for cell in table.cells[i]])
    if j is not None:
        return least_mark(table.sides, [row[j] < 0 for row in table.cells]), j
    return None, None


def solved(table):
    """A table, the row and the column at which the turns end.

    Row and column are None: the sides are as they must be, and the goal is as great as it can be. Only the
    column is None: whatever the amounts are, one of those in the row is below 0. Only the row is None: if
    the amounts can be as they must be at all, the goal has no greatest worth.
    """
    i, j = next_turn(table)
    while i is not None and j is not None:
        table = turned(table, i, j)
        i, j = next_turn(table)
    return table, i, j


def worth_of(table, k):
    """What free amount number k is, times whole; one that no sum has is 0."""
    mark = FREE - k
    if mark in table.sides:
        return table.cells[table.sides.index(mark)][0]
    return 0


def grows(table, j):
    """Whether the goal of a solved table, that ended at column j, grows without end."""
    free = [cell for mark, cell in zip(table.heads, table.cells[-1]) if mark <= FREE]
    return j is not None or any([cell != 0 for cell in free])
