"""Cells: the points at which some rows hold together, told by their corners.

A place is four integers (w, a, b, c), w not below 0: the point (a/w, b/w, c/w) or, where w is 0, the direction
(a, b, c). A wall of a cell is a sum that is not below 0 in it; the first wall is w. Cells are never changed, so
that operators can reckon with them, too.
"""

from lessways.mending import integers_of, lowered
from lessways.shares import Share


class Cell:
    """The points at which some rows hold together, at least one.

    lines are directions along which no wall changes. places are the corners and the other directions of the
    cell: what lies in it or on its walls is a mixture of these. masks tell for each of them, by one bit for each
    wall, which walls are 0 there; strict has the bits of the walls that have to be above 0, and bit is that of
    the next wall.
    """

    def __init__(self, lines, corners, strict, bit):
        self.lines = lines
        self.places = [place for place, mask in corners]
        self.masks = [mask for place, mask in corners]
        self.strict = strict
        self.bit = bit


def whole_cell(unknowns):
    """The cell of all points of so many unknowns; the worths of all others are 0."""
    lines = [tuple([1 if at == k else 0 for at in range(4)]) for k in range(1, unknowns + 1)]
    return Cell(lines, [((1, 0, 0, 0), 0)], 1, 2)


def worths(numbers, places):
    """What a sum of four multiples is at each of some places."""
    n, a, b, c = numbers
    return [n * w + a * x + b * y + c * z for w, x, y, z in places]


def changes(slopes):
    """Whether a sum changes along some line, by its slopes along all of them."""
    return any([slope != 0 for slope in slopes])


def forced_answer(cell, told, strict):
    """How a row comes out everywhere in a cell, by what its sum is at the places; None if it is not the same."""
    below = above = False
    common = cell.strict
    for worth, mask in zip(told, cell.masks):
        if worth > 0:
            above = True
        elif worth < 0:
            below = True
        else:
            common = common & mask
        if below and above:
            return None
    # The places at which the sum is 0 make a face. It has a point of the cell just if no strict wall is 0 on all
    # of it; the wall w is strict, so that a face of directions alone has none.
    bare = common != 0
    if not above and (strict or bare):
        return False
    if not below and (not strict or bare):
        return True
    return None


def mixture(place, by, other, times):
    """The place that is one place by times, and another one times times."""
    return tuple(lowered([by * one + times * two for one, two in zip(place, other)]))


def is_edge(masks, common):
    """Whether just two places have all walls in common that are 0 at two of them: so they are neighbours."""
    many = 0
    for mask in masks:
        if mask & common == common:
            many += 1
            if many > 2:
                return False
    return True


def opposite(place):
    """The direction opposite to a direction."""
    return tuple([-part for part in place])


def cut_by_line(cell, slopes, told):
    """What cut tells if a sum changes along a line: this line then leads from below the face to above it."""
    at = [slope != 0 for slope in slopes].index(True)
    line = cell.lines[at] if slopes[at] > 0 else opposite(cell.lines[at])
    slope = abs(slopes[at])
    level = [mixture(other, slope, line, -tilt) for k, (other, tilt) in enumerate(zip(cell.lines, slopes)) if k != at]
    face = [(mixture(place, slope, line, -worth), mask | cell.bit)
            for place, mask, worth in zip(cell.places, cell.masks, told)]
    return level, [(opposite(line), cell.bit - 1)], face, [(line, cell.bit - 1)]


def cut(cell, told):
    """The lines, and three lists of places with their masks: below the face at which a sum is 0, on it, above."""
    lower = []
    face = []
    upper = []
    for place, mask, worth in zip(cell.places, cell.masks, told):
        if worth < 0:
            lower.append((place, mask))
        elif worth > 0:
            upper.append((place, mask))
        else:
            face.append((place, mask | cell.bit))
    depths = [worth for worth in told if worth < 0]
    heights = [worth for worth in told if worth > 0]
    for (under, one), depth in zip(lower, depths):
        for (over, two), height in zip(upper, heights):
            if is_edge(cell.masks, one & two):
                face.append((mixture(under, height, over, -depth), one & two | cell.bit))
    return cell.lines, lower, face, upper


def halves(cell, strict, parts):
    """The cells of the answers False and True to a row, by what cut tells of it."""
    lines, lower, face, upper = parts
    more = cell.strict | cell.bit
    no = Cell(lines, [*lower, *face], cell.strict if strict else more, cell.bit * 2)
    yes = Cell(lines, [*face, *upper], more if strict else cell.strict, cell.bit * 2)
    return [(False, no), (True, yes)]


def forks(cell, row):
    """The pairs (answer, cell) of an ask: one if the row is forced in the cell, else that of False first."""
    numbers = integers_of(row.term)
    told = worths(numbers, cell.places)
    if cell.lines:
        slopes = worths(numbers, cell.lines)
        if changes(slopes):
            return halves(cell, row.strict, cut_by_line(cell, slopes, told))
    answer = forced_answer(cell, told, row.strict)
    if answer is not None:
        return [(answer, cell)]
    return halves(cell, row.strict, cut(cell, told))


def held(cell, row):
    """The cell of those points of a cell at which a row holds, too; None if there is none."""
    for answer, part in forks(cell, row):
        if answer:
            return part
    return None


def cell_of(unknowns, rows):
    """The cell of the points at which all rows hold; None if there is none."""
    cell = whole_cell(unknowns)
    for row in rows:
        cell = held(cell, row)
        if cell is None:
            return None
    return cell


def walls_of(unknowns, rows):
    """The places in a list of those rows that become walls of their cell, in their order; the others are forced."""
    cell = whole_cell(unknowns)
    found = []
    for at, row in enumerate(rows):
        part = held(cell, row)
        if part.bit > cell.bit:
            found.append(at)
        cell = part
    return found


def touched(cell):
    """The bits of the walls that are 0 at some place. Without the others the cell would have the same points."""
    bits = 0
    for mask in cell.masks:
        bits = bits | mask
    return bits


def point_in(cell):
    """A point of a cell, on no wall that is not 0 in all of it."""
    whole, *parts = [sum([place[at] for place in cell.places]) for at in range(4)]
    return tuple([Share(part, whole) for part in parts])


def is_full(cell):
    """Whether a cell has points on all sides of one of its points."""
    common = cell.bit - 1
    for mask in cell.masks:
        common = common & mask
    return common == 0


def shares_of(direction):
    """The shares of a direction."""
    return tuple([Share(part) for part in direction[1:]])


def direction_in(cell):
    """A direction in which a cell goes on without end, or None if there is none."""
    for direction in [*cell.lines, *cell.places]:
        if direction[0] == 0:
            return shares_of(direction)
    return None
