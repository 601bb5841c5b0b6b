"""Lands: sets of points."""

from lessways.cells import direction_in, point_in, whole_cell
from lessways.checks import check_count, check_rows, check_term
from lessways.errors import UnlikeCounts
from lessways.overlays import EVERYWHERE, NOWHERE, all_hold, chosen, contrary, part_chosen, part_where, parts_of
from lessways.spans import spanned
from lessways.terms import term_of
from lessways.trees import walk


def check_alike(one, other):
    """That two lands have the same number of unknowns."""
    if one.unknowns != other.unknowns:
        raise UnlikeCounts(one.unknowns, other.unknowns)


def picked(land, yes, no):
    """The land of what one tree tells at the points of a land, and another one at all others."""
    return Land(land.unknowns, chosen(whole_cell(land.unknowns), land.root, yes, no))


def cells_of(land):
    """The cells that make up a land."""
    return [cell for cell, within in parts_of(whole_cell(land.unknowns), land.root) if within]


def is_somewhere(land, yes, no):
    """Whether picked would tell a land that has a point."""
    return part_chosen(whole_cell(land.unknowns), land.root, yes, no) is not None


def is_within(one, other):
    """Whether every point of one land is in another one."""
    return not is_somewhere(one, contrary(other.root), NOWHERE)


class Land:
    """The points at which a tree of truths tells True. No ask in the tree is forced."""

    def __init__(self, unknowns, root):
        self.unknowns = unknowns
        self.root = root

    @staticmethod
    def of_rows(unknowns, rows):
        """The land of the points at which all rows hold."""
        check_count(unknowns)
        check_rows(rows, unknowns)
        return Land(unknowns, all_hold(whole_cell(unknowns), rows))

    def one_point(self):
        """A point of this land, or None if it has none."""
        cell = part_where(whole_cell(self.unknowns), self.root, True)
        if cell is None:
            return None
        return point_in(cell)

    def is_all(self):
        """Whether this land has all points."""
        return self.root == EVERYWHERE

    def span(self, term):
        """The pair (least, greatest) of a term over this land; None if it has no point."""
        sought = term_of(term)
        check_term(sought, self.unknowns)
        if self.root == NOWHERE:
            return None
        return spanned([(cell, sought) for cell in cells_of(self)])

    def away(self):
        """A point and a direction in which this land goes on without end; None if there are none."""
        for cell in cells_of(self):
            direction = direction_in(cell)
            if direction is not None:
                return point_in(cell), direction
        return None

    def __contains__(self, x):
        return walk(self.root, x)

    def __and__(self, other):
        if not isinstance(other, Land):
            return NotImplemented
        check_alike(self, other)
        return picked(self, other.root, NOWHERE)

    def __or__(self, other):
        if not isinstance(other, Land):
            return NotImplemented
        check_alike(self, other)
        return picked(self, EVERYWHERE, other.root)

    def __sub__(self, other):
        if not isinstance(other, Land):
            return NotImplemented
        check_alike(self, other)
        return picked(self, contrary(other.root), NOWHERE)

    def __xor__(self, other):
        if not isinstance(other, Land):
            return NotImplemented
        check_alike(self, other)
        return picked(self, contrary(other.root), other.root)

    def __invert__(self):
        return Land(self.unknowns, contrary(self.root))

    def __eq__(self, other):
        if not isinstance(other, Land) or self.unknowns != other.unknowns:
            return False
        return not is_somewhere(self, contrary(other.root), other.root)

    def __le__(self, other):
        if not isinstance(other, Land):
            return NotImplemented
        check_alike(self, other)
        return is_within(self, other)

    def __lt__(self, other):
        if not isinstance(other, Land):
            return NotImplemented
        check_alike(self, other)
        return is_within(self, other) and not is_within(other, self)

    def __ge__(self, other):
        if not isinstance(other, Land):
            return NotImplemented
        check_alike(self, other)
        return is_within(other, self)

    def __gt__(self, other):
        if not isinstance(other, Land):
            return NotImplemented
        check_alike(self, other)
        return is_within(other, self) and not is_within(self, other)
