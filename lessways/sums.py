"""Sums: a term and ask trees of terms, added up. Operators reckon with them.

A sum is a pair (term, summands). The summands are pairs (number, tree), each the numbers of a tree by a number;
no two trees are equal, and no number is 0. Sums keep their trees apart as long as they can: put together, they
have as many leaves as all ways in which their asks come out together.
"""

from lessways.cells import forks, whole_cell
from lessways.overlays import EVERYWHERE, NOWHERE, grown, part_where, trimmed
from lessways.terms import Term
from lessways.trees import side, walk

CROWD = 5


def nought():
    """The sum that is 0."""
    return Term.constant(0), []


def sum_of_term(term):
    """The sum that a term is."""
    return term, []


def sum_of_tree(tree):
    """The sum that a tree of terms is."""
    if tree[0] == "leaf":
        return tree[1], []
    return Term.constant(0), [(1, tree)]


def sum_at(total, point):
    """The share that a sum is at a point."""
    worth = total[0].at(point)
    for number, tree in total[1]:
        worth = worth + walk(tree, point).at(point) * number
    return worth


def sum_times(total, number):
    """A sum by a number."""
    term, summands = total
    if number == 0:
        return term * 0, []
    return term * number, [(by * number, tree) for by, tree in summands]


def with_summand(summands, number, tree):
    """Summands with one more."""
    if not any([tree == other for by, other in summands]):
        return [*summands, (number, tree)]
    found = [(by + number if tree == other else by, other) for by, other in summands]
    return [pair for pair in found if pair[0] != 0]


def sum_of_sums(one, other):
    """Two sums added up."""
    summands = one[1]
    for number, tree in other[1]:
        summands = with_summand(summands, number, tree)
    return one[0] + other[0], summands


def settled(total):
    """A sum without leaves in front."""
    term, summands = total
    at = 0
    while at < len(summands) and summands[at][1][0] == "leaf":
        number, tree = summands[at]
        term = term + (tree[1] if number == 1 else tree[1] * number)
        at += 1
    return term, summands[at:]


def first_row(total):
    """The first row that a settled sum asks."""
    return total[1][0][1][1]


def behind(total, answer):
    """A settled sum behind the answer to the first row that it asks."""
    term, summands = total
    (number, tree), *rest = summands
    return term, [(number, side(tree, answer)), *rest]


def parts_of_sum(cell, total):
    """The pairs (cell, term) that make up what a sum is in a cell."""
    first = settled(total)
    if not first[1]:
        return [(cell, first[0])]
    found = []
    for answer, part in forks(cell, first_row(first)):
        found.extend(parts_of_sum(part, behind(first, answer)))
    return found


def tree_of_sum(cell, total):
    """The tree of terms that a sum is in a cell."""
    first = settled(total)
    if not first[1]:
        return ("leaf", first[0])
    row = first_row(first)
    return grown(row, [tree_of_sum(part, behind(first, answer)) for answer, part in forks(cell, row)])


def thinned(unknowns, total):
    """A sum, put together to one tree if it has many."""
    if len(total[1]) > CROWD:
        return sum_of_tree(tree_of_sum(whole_cell(unknowns), total))
    return total


def met(sign, term, other):
    """The tree of two terms under a sign.

    The signs are & and |, the lesser and the greater one; abs, the first one without its sign, the other one being
    0; < > and =, truths.
    """
    if sign == "&":
        return ("ask", term < other, ("leaf", other), ("leaf", term))
    if sign == "|":
        return ("ask", term < other, ("leaf", term), ("leaf", other))
    if sign == "abs":
        return ("ask", term < other, ("leaf", term), ("leaf", -term))
    if sign == "<":
        return ("ask", term < other, NOWHERE, EVERYWHERE)
    if sign == ">":
        return ("ask", term > other, NOWHERE, EVERYWHERE)
    return ("ask", term < other, ("ask", term > other, EVERYWHERE, NOWHERE), NOWHERE)


def joined(sign, cell, one, other):
    """The tree of two sums under a sign."""
    left = settled(one)
    right = settled(other)
    if left[1]:
        row = first_row(left)
        return grown(row, [joined(sign, part, behind(left, answer), right) for answer, part in forks(cell, row)])
    if right[1]:
        row = first_row(right)
        return grown(row, [joined(sign, part, left, behind(right, answer)) for answer, part in forks(cell, row)])
    return trimmed(cell, met(sign, left[0], right[0]))


def cell_under(sign, truth, cell, total):
    """A part of a cell in which it is so (or not so) that a sum is under a sign with 0; None if there is none."""
    first = settled(total)
    if not first[1]:
        return part_where(cell, met(sign, first[0], Term.constant(0)), truth)
    for answer, part in forks(cell, first_row(first)):
        found = cell_under(sign, truth, part, behind(first, answer))
        if found is not None:
            return found
    return None


def chosen_sum(cell, tree, yes, no):
    """The tree of one sum where a tree of truths tells True, and of another one elsewhere."""
    if tree[0] == "leaf":
        return tree_of_sum(cell, yes if tree[1] else no)
    return grown(tree[1], [chosen_sum(part, side(tree, answer), yes, no) for answer, part in forks(cell, tree[1])])
