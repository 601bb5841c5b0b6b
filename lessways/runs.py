"""Runs: calls of a code with unknowns, one behind the other."""

from lessways.cells import forks
from lessways.checks import check_term
from lessways.errors import NotRow, Stale, TooDeep, TooMany, Wavers
from lessways.mending import integers_of
from lessways.rows import Row
from lessways.terms import Term

DEEP = "deep"
WAVERING = "wavering"


class Node:
    """What is known behind some recorded asks: the cell of the rows so far, and how asks there come out."""

    def __init__(self, cell):
        self.cell = cell
        self.known = {}


def forks_at(node, row):
    """The forks of a row in the cell of a node, reckoned once only."""
    key = (*integers_of(row.term), row.strict)
    if key not in node.known:
        node.known[key] = forks(node.cell, row)
    return node.known[key]


class Run:
    """One call of a code.

    nodes has one more than the path has pairs, or goes on behind it with those of an earlier run. repeats are
    the pairs that have to be repeated. If there is a point, asks are answered as their rows are there.
    """

    def __init__(self, asker, nodes, repeats, point):
        self.asker = asker
        self.nodes = nodes
        self.repeats = repeats
        self.point = point
        self.path = []
        self.forced = []
        self.fault = None
        self.ended = False

    def answer(self, thing):
        """What ask tells of a thing."""
        if isinstance(thing, bool):
            return thing
        if not isinstance(thing, Row):
            raise NotRow(thing)
        if self.ended:
            raise Stale(thing)
        check_term(thing.term, self.asker.unknowns)
        ways = forks_at(self.nodes[len(self.path)], thing)
        if len(ways) == 1:
            self.forced.append((len(self.path), thing, ways[0][0]))
            return ways[0][0]
        if self.fault is None:
            self.fault = self.fault_at(thing)
        self.check_fault()
        return self.recorded(thing, ways)

    def fault_at(self, row):
        """What is wrong with recording a row next, or None."""
        at = len(self.path)
        if at < len(self.repeats):
            return None if self.repeats[at][0] == row else WAVERING
        return DEEP if at == self.asker.deepest else None

    def check_fault(self):
        """That nothing was wrong in this run."""
        if self.fault == DEEP:
            raise TooDeep(tuple(self.path))
        if self.fault == WAVERING:
            raise Wavers(tuple(self.path))

    def recorded(self, row, ways):
        """The answer to a row that is recorded now."""
        asker = self.asker
        asker.asks += 1
        at = len(self.path)
        if at < len(self.repeats):
            answer = self.repeats[at][1]
        else:
            answer = self.point is not None and row.holds(self.point)
        self.path.append((row, answer))
        if len(self.nodes) == len(self.path):
            self.nodes.append(Node([cell for told, cell in ways if told == answer][0]))
        return answer

    def end_cell(self):
        """The cell of the rows so far."""
        return self.nodes[len(self.path)].cell

    def call(self, codes):
        """What codes return that are called with the asks of this run."""
        asker = self.asker
        asker.calls += 1
        x = tuple([Term.unknown(k) for k in range(asker.unknowns)])

        def ask(row):
            """Whether a row, or a truth, is so."""
            return self.answer(row)

        found = []
        try:
            for code in codes:
                found.append(code(ask, x))
        finally:
            self.ended = True
        if self.fault is None and len(self.path) < len(self.repeats):
            self.fault = WAVERING
        self.check_fault()
        return found


class Asking:
    """Runs of the same codes, one behind the other; run is the last one, and told what the codes returned."""

    def __init__(self, asker, codes):
        self.asker = asker
        self.codes = codes
        self.run = None
        self.told = []
        self.many = 0

    def repeated(self):
        """The pairs that the next run has to repeat, or None if there is no next run."""
        if self.run is None:
            return []
        path = self.run.path
        at = len(path) - 1
        while at >= 0 and path[at][1]:
            at -= 1
        return None if at < 0 else [*path[:at], (path[at][0], True)]

    def goes_on(self):
        """Makes the next run, and tells whether there was one to make."""
        repeats = self.repeated()
        if repeats is None:
            return False
        if self.many == self.asker.most:
            raise TooMany(tuple(repeats))
        nodes = [Node(self.asker.start)] if self.run is None else self.run.nodes[:len(repeats)]
        self.many += 1
        self.run = Run(self.asker, nodes, repeats, None)
        self.told = self.run.call(self.codes)
        return True
