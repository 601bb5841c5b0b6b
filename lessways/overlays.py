"""Overlays: ask trees made in a cell, with no ask that is forced there. Operators reckon with them.

Behind each leaf of such a tree is a point, and no ask has two equal leaves: a tree of truths is one leaf if it is
True everywhere, or False everywhere.
"""

from lessways.cells import forks
from lessways.trees import side

EVERYWHERE = ("leaf", True)
NOWHERE = ("leaf", False)


def grown(row, sides):
    """The tree of an ask, with one side if it is forced, else those behind False and True."""
    if len(sides) == 1:
        return sides[0]
    no, yes = sides
    if no[0] == "leaf" and no == yes:
        return no
    return ("ask", row, no, yes)


def trimmed(cell, tree):
    """A tree without the asks that are forced."""
    if tree[0] == "leaf":
        return tree
    return grown(tree[1], [trimmed(part, side(tree, answer)) for answer, part in forks(cell, tree[1])])


def all_hold(cell, rows):
    """The tree of whether all rows hold."""
    if not rows:
        return EVERYWHERE
    first, *rest = rows
    return grown(first, [all_hold(part, rest) if answer else NOWHERE for answer, part in forks(cell, first)])


def chosen(cell, tree, yes, no):
    """The tree of what one tree tells where a tree of truths tells True, and what another one tells elsewhere."""
    if tree[0] == "leaf":
        return trimmed(cell, yes if tree[1] else no)
    return grown(tree[1], [chosen(part, side(tree, answer), yes, no) for answer, part in forks(cell, tree[1])])


def contrary(tree):
    """The tree that tells the contrary of each truth."""
    if tree[0] == "leaf":
        return NOWHERE if tree[1] else EVERYWHERE
    return ("ask", tree[1], contrary(tree[2]), contrary(tree[3]))


def parts_of(cell, tree):
    """The pairs (cell, value) of all leaves of a tree."""
    if tree[0] == "leaf":
        return [(cell, tree[1])]
    found = []
    for answer, part in forks(cell, tree[1]):
        found.extend(parts_of(part, side(tree, answer)))
    return found


def part_where(cell, tree, truth):
    """The cell of the first leaf of a tree of truths that tells a truth; None if none does."""
    if tree[0] == "leaf":
        return cell if tree[1] == truth else None
    for answer, part in forks(cell, tree[1]):
        found = part_where(part, side(tree, answer), truth)
        if found is not None:
            return found
    return None


def part_chosen(cell, tree, yes, no):
    """A part of a cell where what chosen would tell, of trees of truths, is True; None if there is none."""
    if tree[0] == "leaf":
        return part_where(cell, yes if tree[1] else no, True)
    for answer, part in forks(cell, tree[1]):
        found = part_chosen(part, side(tree, answer), yes, no)
        if found is not None:
            return found
    return None
