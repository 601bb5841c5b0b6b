"""Asking: askers put codes through their runs."""

from lessways.cells import cell_of, held, point_in, touched, walls_of
from lessways.checks import check_count, check_limit, check_rows, check_unknown
from lessways.errors import HasGiven, NotCounted, Nothing, NotNumber, NotRow, NotTruth
from lessways.lands import Land
from lessways.mending import weights_of
from lessways.pieces import Pieces
from lessways.rows import Row
from lessways.runs import Asking, Node, Run
from lessways.shares import share_of
from lessways.spans import spanned
from lessways.sums import sum_of_tree
from lessways.terms import Term, term_of
from lessways.trees import pruned, tree_of

MOST_DEEP = 12
MOST_RUNS = 2000


def called(code, point, unknowns):
    """What a code returns that is called with the numbers of a point."""
    worths = tuple(point)
    x = tuple([share_of(worths[k] if k < len(worths) else 0) for k in range(unknowns)])

    def ask(row):
        """Whether a row, or a truth, is so."""
        if isinstance(row, bool):
            return row
        if not isinstance(row, Row):
            raise NotRow(row)
        return row.holds(worths)

    return code(ask, x)


def truth_of(asking):
    """The truth that the code returned in the last run."""
    value = asking.told[0]
    if not isinstance(value, bool):
        raise NotTruth(tuple(asking.run.path))
    return value


def number_of(asking):
    """The term that the code returned in the last run."""
    term = term_of(asking.told[0])
    if term is None:
        raise NotNumber(tuple(asking.run.path))
    return term


def truth_tree(asking):
    """The tree of the truths that a code returns."""
    found = []
    while asking.goes_on():
        found.append((asking.run.path, truth_of(asking)))
    return pruned(tree_of(found, 0))


def number_tree(asking):
    """The tree of the terms that a code returns."""
    found = []
    while asking.goes_on():
        found.append((asking.run.path, number_of(asking)))
    return pruned(tree_of(found, 0))


def unlike_cell(cell, one, other):
    """The cell of points of a cell at which two values are unlike; None if there are none."""
    left, right = term_of(one), term_of(other)
    if left is not None and right is not None:
        return held(cell, left < right) or held(cell, left > right)
    if isinstance(one, bool) == isinstance(other, bool) and one == other:
        return None
    return cell


def weights_in(cell, walls, rows, last):
    """The weights of rows that hold in a cell, and of a last one that holds nowhere with them.

    walls are the places of those rows that are walls of the cell. Only such as are 0 at some place of it are given
    weights: these are few, even where the rows are many.
    """
    bits = touched(cell)
    places = [at for k, at in enumerate(walls) if bits >> (k + 1) & 1 == 1]
    told = weights_of([*[rows[at] for at in places], last])
    weights = [0 for row in rows]
    for at, weight in zip(places, told):
        weights[at] = weight
    return [*weights, told[-1]]


def told_row(row, answer):
    """The row that an answer says: this row, or its contrary."""
    return row if answer else ~row


class Asker:
    """Puts codes through their runs; calls and asks count the runs begun and the asks recorded."""

    def __init__(self, unknowns, *, given=(), deepest=8, most=400):
        check_count(unknowns)
        rows = list(given)
        check_rows(rows, unknowns)
        start = cell_of(unknowns, rows)
        if start is None:
            raise Nothing(rows)
        check_limit(deepest, MOST_DEEP)
        check_limit(most, MOST_RUNS)
        self.unknowns = unknowns
        self.deepest = deepest
        self.most = most
        self.calls = 0
        self.asks = 0
        self.given = rows
        self.start = start

    def tree(self, code):
        """The ask tree of a code."""
        asking = Asking(self, [code])
        found = []
        while asking.goes_on():
            found.append((asking.run.path, asking.told[0]))
        return tree_of(found, 0)

    def every(self, code):
        """Whether a code returns True in all runs."""
        asking = Asking(self, [code])
        while asking.goes_on():
            if not truth_of(asking):
                return False
        return True

    def some(self, code):
        """Whether a code returns True in some run."""
        asking = Asking(self, [code])
        while asking.goes_on():
            if truth_of(asking):
                return True
        return False

    def first(self, code):
        """A point of the first run in which a code returns True, or None if there is none."""
        asking = Asking(self, [code])
        while asking.goes_on():
            if truth_of(asking):
                return point_in(asking.run.end_cell())
        return None

    def parting(self, code, other):
        """A point at which the values of two codes are unlike, or None if there is none."""
        asking = Asking(self, [code, other])
        while asking.goes_on():
            one, two = asking.told
            cell = unlike_cell(asking.run.end_cell(), one, two)
            if cell is not None:
                return point_in(cell)
        return None

    def span(self, code):
        """The pair (least, greatest) of what a code returns."""
        asking = Asking(self, [code])
        parts = []
        while asking.goes_on():
            parts.append((asking.run.end_cell(), number_of(asking)))
        return spanned(parts)

    def run_at(self, code, point):
        """The run of a code in which the answers are those at a point."""
        worths = tuple(point)
        if not all([row.holds(worths) for row in self.given]):
            raise NotCounted(point)
        run = Run(self, [Node(self.start)], [], worths)
        run.call([code])
        return run

    def way(self, code, point):
        """The path of the run that a code makes at a point."""
        return tuple(self.run_at(code, point).path)

    def room(self, code, point, k):
        """The pair (least, greatest) of the worths of unknown k that do not change the run at a point."""
        check_unknown(k, self.unknowns)
        worths = [*point, 0, 0, 0]
        cell = self.run_at(code, point).end_cell()
        for other in range(self.unknowns):
            if other != k:
                cell = held(cell, Term.unknown(other) >= worths[other])
                cell = held(cell, Term.unknown(other) <= worths[other])
        return spanned([(cell, Term.unknown(k))])

    def needless(self, code):
        """The tuples (path, row, answer, weights) of all forced asks of rows."""
        asking = Asking(self, [code])
        walls = walls_of(self.unknowns, self.given)
        count = len(self.given)
        found = []
        while asking.goes_on():
            run = asking.run
            new = [ask for ask in run.forced if ask[0] >= len(run.repeats)]
            for many, row, answer in new:
                path = tuple(run.path[:many])
                rows = [*self.given, *[told_row(*pair) for pair in path]]
                places = [*walls, *list(range(count, count + many))]
                weights = weights_in(run.nodes[many].cell, places, rows, told_row(row, not answer))
                found.append((path, row, answer, weights))
        return found

    def read(self, code):
        """The pieces that a code of numbers is."""
        if self.given:
            raise HasGiven(list(self.given))
        return Pieces(self.unknowns, sum_of_tree(number_tree(Asking(self, [code]))))

    def land(self, code):
        """The land of the points at which a code returns True."""
        if self.given:
            raise HasGiven(list(self.given))
        return Land(self.unknowns, truth_tree(Asking(self, [code])))
