"""Just beside a point: what trees of terms tell where one unknown is moved by as little as one likes."""

from lessways.cells import forks, held, point_in, whole_cell
from lessways.rows import Row
from lessways.shares import Share
from lessways.terms import Term
from lessways.trees import side, walk


def beside(tree, k, way):
    """The tree that tells at each point what a tree tells just beside, unknown k upward (1) or downward (-1)."""
    if tree[0] == "leaf":
        return tree
    row = tree[1]
    tilt = row.term.times[k] * way
    # A term that is 0 here is above 0 beside if it grows that way, and below 0 if it falls.
    strict = tilt < 0 or tilt == 0 and row.strict
    return ("ask", Row(row.term, strict), beside(tree[2], k, way), beside(tree[3], k, way))


def asked_terms(tree, point):
    """The terms of the rows that a tree asks at a point."""
    found = []
    at = tree
    while at[0] == "ask":
        found.append(at[1].term)
        at = side(at, at[1].holds(point))
    return found


def steps(cell, tree):
    """The pairs (cell, tree) behind the first ask of a tree in a cell; of a leaf, the cell and the leaf."""
    if tree[0] == "leaf":
        return [(cell, tree)]
    return [(part, side(tree, answer)) for answer, part in forks(cell, tree[1])]


def least_step(terms, point, k, way):
    """A share above 0 so small that no term becomes 0 where unknown k is moved by it, or less, from a point."""
    step = Share(2)
    for term in terms:
        tilt = term.times[k] * way
        if tilt != 0:
            root = -term.at(point).over(tilt)
            if root > 0 and root < step:
                step = root
    return step.over(2)


def moved(point, k, step):
    """A point with unknown k moved by a step."""
    return tuple([worth + step if at == k else worth for at, worth in enumerate(point)])


def unlike_point(cell, here, there, k):
    """A point of a cell where two terms, the second one just beside in unknown k, are unlike; None if none is."""
    part = held(cell, here > there) or held(cell, here < there)
    if part is None and there.times[k] != 0:
        part = cell
    return None if part is None else point_in(part)


def fallen_point(cell, here, there, k, way):
    """A point of a cell from which the number falls, to the second term just beside or, downward, from it."""
    gap = (here - there) * way
    part = held(cell, gap > 0)
    if part is None and there.times[k] < 0:
        part = held(cell, gap >= 0)
    return None if part is None else point_in(part)


def point_beside(cell, here, there, k, way, falls):
    """A point of a cell that is told of the leaves of two trees, the second one beside the first; None if none is.

    Both trees are gone down side by side: where they ask about the same, the second ask is forced at once.
    """
    if here[0] == "leaf" and there[0] == "leaf":
        if falls:
            return fallen_point(cell, here[1], there[1], k, way)
        return unlike_point(cell, here[1], there[1], k)
    for part, one in steps(cell, here):
        for inner, other in steps(part, there):
            point = point_beside(inner, one, other, k, way, falls)
            if point is not None:
                return point
    return None


def pair_beside(tree, other, point, k, way):
    """A point and another one beside it at which a tree tells the same as just beside."""
    gap = Term.constant(walk(tree, point).at(point)) - walk(other, point)
    step = least_step([*asked_terms(other, point), gap], point, k, way)
    return point, moved(point, k, step * way)


def leaning(unknowns, tree, k):
    """A pair of points that differ in unknown k alone, and unlike numbers there; None if there is none."""
    for way in (1, -1):
        other = beside(tree, k, way)
        point = point_beside(whole_cell(unknowns), tree, other, k, way, False)
        if point is not None:
            return pair_beside(tree, other, point, k, way)
    return None


def falling(unknowns, tree, k):
    """A pair of points, of which the second one has more of unknown k alone, and the lesser number; or None."""
    for way in (1, -1):
        other = beside(tree, k, way)
        point = point_beside(whole_cell(unknowns), tree, other, k, way, True)
        if point is not None:
            pair = pair_beside(tree, other, point, k, way)
            return pair if way > 0 else pair[::-1]
    return None
