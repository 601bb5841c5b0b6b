"""Pieces: a number for each point."""

from lessways.beside import falling, leaning
from lessways.cells import is_full, point_in, whole_cell
from lessways.checks import check_count, check_term, check_unknown
from lessways.errors import BadCount, UnlikeCounts
from lessways.lands import Land
from lessways.lines import jumps_of, turns, twice_of
from lessways.puts import put_in
from lessways.shares import is_number
from lessways.spans import climb, spanned
from lessways.sums import (cell_under, chosen_sum, joined, nought, parts_of_sum, sum_at, sum_of_sums, sum_of_term,
                           sum_of_tree, sum_times, thinned, tree_of_sum)
from lessways.terms import term_of


def sum_beside(pieces, thing):
    """The sum of what is put together with pieces: pieces, a term or a number; None of any other thing."""
    if isinstance(thing, Pieces):
        if thing.unknowns != pieces.unknowns:
            raise UnlikeCounts(pieces.unknowns, thing.unknowns)
        return thing.total
    term = term_of(thing)
    if term is None:
        return None
    check_term(term, pieces.unknowns)
    return sum_of_term(term)


def gap(pieces, total):
    """The sum that pieces are, less another sum."""
    return sum_of_sums(pieces.total, sum_times(total, -1))


def added(pieces, total):
    """Pieces and a sum, added up."""
    return Pieces(pieces.unknowns, thinned(pieces.unknowns, sum_of_sums(pieces.total, total)))


def pieces_under(sign, pieces, left, right):
    """The pieces, of as many unknowns as some pieces, that two sums are under a sign."""
    return Pieces(pieces.unknowns, sum_of_tree(joined(sign, whole_cell(pieces.unknowns), left, right)))


def land_under(sign, pieces, total):
    """The land of the points at which pieces are under a sign with a sum."""
    return Land(pieces.unknowns, joined(sign, whole_cell(pieces.unknowns), gap(pieces, total), nought()))


def cell_where(sign, truth, pieces, total):
    """A cell in which it is so (or not so) that pieces are under a sign with a sum; None if there is none."""
    return cell_under(sign, truth, whole_cell(pieces.unknowns), gap(pieces, total))


def tree_of(pieces):
    """The tree of terms that pieces are."""
    return tree_of_sum(whole_cell(pieces.unknowns), pieces.total)


def parts_in(pieces):
    """The pairs (cell, term) that make up pieces."""
    return parts_of_sum(whole_cell(pieces.unknowns), pieces.total)


def check_one(pieces):
    """That pieces are of one unknown."""
    if pieces.unknowns != 1:
        raise BadCount(pieces.unknowns)


def check_leaning(pieces, k):
    """That it can be asked how pieces change with unknown k alone."""
    if pieces.unknowns > 2:
        raise BadCount(pieces.unknowns)
    check_unknown(k, pieces.unknowns)


def count_of(parts, own):
    """The number of unknowns of the first pieces among parts; own if there are none."""
    for part in parts:
        if isinstance(part, Pieces):
            return part.unknowns
    return own


def sums_of(parts, unknowns):
    """The sums of pieces, terms and numbers that all have so many unknowns."""
    totals = []
    for part in parts:
        if isinstance(part, Pieces):
            if part.unknowns != unknowns:
                raise UnlikeCounts(unknowns, part.unknowns)
            totals.append(part.total)
        else:
            term = term_of(part)
            check_term(term, unknowns)
            totals.append(sum_of_term(term))
    return totals


class Pieces:
    """The numbers that a sum of ask trees tells."""

    def __init__(self, unknowns, total):
        self.unknowns = unknowns
        self.total = total

    @staticmethod
    def of_term(unknowns, term):
        """The pieces with the worth of a term, or a number, at every point."""
        check_count(unknowns)
        told = term_of(term)
        check_term(told, unknowns)
        return Pieces(unknowns, sum_of_term(told))

    def __call__(self, point):
        return sum_at(self.total, point)

    def parted(self, q):
        """A point at which the numbers are unlike, or None if there is none."""
        cell = cell_where("=", False, self, sum_beside(self, q))
        return None if cell is None else point_in(cell)

    def below(self, q):
        """The land of the points at which the number is less than that of q."""
        return land_under("<", self, sum_beside(self, q))

    def level(self, q):
        """The land of the points at which the number is that of q."""
        return land_under("=", self, sum_beside(self, q))

    def where(self, land, q):
        """The pieces with these numbers at the points of a land, and those of q at all others."""
        if land.unknowns != self.unknowns:
            raise UnlikeCounts(self.unknowns, land.unknowns)
        other = sum_beside(self, q)
        return Pieces(self.unknowns, sum_of_tree(chosen_sum(whole_cell(self.unknowns), land.root, self.total, other)))

    def span(self):
        """The pair (least, greatest) of all numbers."""
        return spanned(parts_in(self))

    def endless(self):
        """A point and a direction in which the number grows without end; None if there are none."""
        for cell, term in parts_in(self):
            direction = climb(cell, term)
            if direction is not None:
                return point_in(cell), direction
        return None

    def one_term(self):
        """The term with the same number at every point, or None if no term has."""
        terms = [term for cell, term in parts_in(self) if is_full(cell)]
        if cell_where("=", False, self, sum_of_term(terms[0])) is None:
            return terms[0]
        return None

    def leans(self, k):
        """Two points that differ in unknown k alone, with unlike numbers; None if there are none."""
        check_leaning(self, k)
        return leaning(self.unknowns, tree_of(self), k)

    def falls(self, k):
        """Two such points, the one with less of unknown k first, of which the second has the lesser number; or None."""
        check_leaning(self, k)
        return falling(self.unknowns, tree_of(self), k)

    def put(self, parts):
        """The pieces with pieces, terms or numbers in the place of the unknowns."""
        if len(parts) != self.unknowns:
            raise BadCount(len(parts))
        count = count_of(parts, self.unknowns)
        totals = sums_of(parts, count)
        return Pieces(count, sum_of_tree(put_in(whole_cell(count), self.total, [], totals)))

    def bends(self):
        """All shares around which the numbers are not one term, ascending."""
        check_one(self)
        return [turn[0] for turn in turns(tree_of(self))]

    def jumps(self):
        """The tuples (share, left, here, right) where these three numbers are not all equal, ascending."""
        check_one(self)
        return jumps_of(tree_of(self))

    def twice(self):
        """Two shares, the lesser one first, at which the numbers are equal; None if there are none."""
        check_one(self)
        return twice_of(tree_of(self))

    def __add__(self, other):
        total = sum_beside(self, other)
        if total is None:
            return NotImplemented
        return added(self, total)

    def __radd__(self, other):
        total = sum_beside(self, other)
        if total is None:
            return NotImplemented
        return added(self, total)

    def __sub__(self, other):
        total = sum_beside(self, other)
        if total is None:
            return NotImplemented
        return added(self, sum_times(total, -1))

    def __rsub__(self, other):
        total = sum_beside(self, other)
        if total is None:
            return NotImplemented
        return added(-self, total)

    def __mul__(self, other):
        if not is_number(other):
            return NotImplemented
        return Pieces(self.unknowns, sum_times(self.total, other))

    def __rmul__(self, other):
        if not is_number(other):
            return NotImplemented
        return Pieces(self.unknowns, sum_times(self.total, other))

    def __neg__(self):
        return Pieces(self.unknowns, sum_times(self.total, -1))

    def __abs__(self):
        return pieces_under("abs", self, self.total, nought())

    def __and__(self, other):
        total = sum_beside(self, other)
        if total is None:
            return NotImplemented
        return pieces_under("&", self, self.total, total)

    def __rand__(self, other):
        total = sum_beside(self, other)
        if total is None:
            return NotImplemented
        return pieces_under("&", self, total, self.total)

    def __or__(self, other):
        total = sum_beside(self, other)
        if total is None:
            return NotImplemented
        return pieces_under("|", self, self.total, total)

    def __ror__(self, other):
        total = sum_beside(self, other)
        if total is None:
            return NotImplemented
        return pieces_under("|", self, total, self.total)

    def __eq__(self, other):
        if not isinstance(other, Pieces) or self.unknowns != other.unknowns:
            return False
        return cell_where("=", False, self, other.total) is None

    def __lt__(self, other):
        total = sum_beside(self, other)
        if total is None:
            return NotImplemented
        return cell_where("<", False, self, total) is None

    def __le__(self, other):
        total = sum_beside(self, other)
        if total is None:
            return NotImplemented
        return cell_where(">", True, self, total) is None

    def __gt__(self, other):
        total = sum_beside(self, other)
        if total is None:
            return NotImplemented
        return cell_where(">", False, self, total) is None

    def __ge__(self, other):
        total = sum_beside(self, other)
        if total is None:
            return NotImplemented
        return cell_where("<", True, self, total) is None
