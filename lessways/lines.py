"""One unknown: where a tree of terms bends and jumps, and where it has a number twice."""

from lessways.beside import beside
from lessways.shares import Share, divisor
from lessways.terms import Term
from lessways.trees import walk


def ascending(shares):
    """The shares in their order, each of them once."""
    whole = 1
    for share in shares:
        whole = whole * share.bottom // divisor(whole, share.bottom)
    places = {}
    for share in shares:
        places[share.top * (whole // share.bottom)] = share
    return [places[place] for place in sorted([int(place) for place in places])]


def zeros(tree):
    """The shares at which some row of a tree is about to change."""
    if tree[0] == "leaf":
        return []
    term = tree[1].term
    return [-term.number.over(term.times[0]), *zeros(tree[2]), *zeros(tree[3])]


def turns(tree):
    """The tuples (share, left term, number here, right term) where a tree is not one term around a share."""
    left = beside(tree, 0, -1)
    right = beside(tree, 0, 1)
    found = []
    for share in ascending(zeros(tree)):
        here = walk(tree, [share]).at([share])
        before = walk(left, [share])
        behind = walk(right, [share])
        if before != behind or here != before.at([share]):
            found.append((share, before, here, behind))
    return found


def jumps_of(tree):
    """The tuples (share, left, here, right) of the numbers of a tree, where they are not all equal."""
    told = [(share, before.at([share]), here, behind.at([share])) for share, before, here, behind in turns(tree)]
    return [jump for jump in told if jump[1] != jump[2] or jump[2] != jump[3]]


def stretches(tree, told):
    """The tuples (low, high, term) of the open stretches between the turns; None stands for no end."""
    if not told:
        # At the point itself the tree may tell the number of the stretch by another term.
        return [(None, None, walk(beside(tree, 0, 1), []))]
    lows = [None, *[turn[0] for turn in told]]
    highs = [*[turn[0] for turn in told], None]
    terms = [told[0][1], *[turn[3] for turn in told]]
    return list(zip(lows, highs, terms))


def two_between(low, high):
    """Two shares between a lower and a higher one, the lesser first; None stands for no end."""
    if low is None:
        low = Share(0) if high is None else high - 3
    if high is None:
        high = low + 3
    third = (high - low).over(3)
    return low + third, high - third


def ends_of(piece):
    """The numbers to which a piece comes near at its ends, the lesser one first; None stands for no end."""
    low, high, term = piece
    ends = [None if share is None else term.at([share]) for share in (low, high)]
    return ends if term.times[0] > 0 else ends[::-1]


def slots_of(piece, slots):
    """The first and the last slot of the numbers of a piece.

    The ends of all pieces have the odd slots, in their order, and what lies between two of them an even one.
    """
    low, high = ends_of(piece)
    if piece[2].times[0] == 0:
        slot = slots[low.top, low.bottom]
        return slot, slot
    first = 0 if low is None else slots[low.top, low.bottom] + 1
    last = 2 * len(slots) if high is None else slots[high.top, high.bottom] - 1
    return first, last


def shared_slot(pieces, slots):
    """A slot that two pieces have, and these two; None if there is none."""
    taken = {}
    for piece in pieces:
        first, last = slots_of(piece, slots)
        for slot in range(first, last + 1):
            if slot in taken:
                return slot, taken[slot], piece
            taken[slot] = piece
    return None


def number_in(slot, ends):
    """A number of a slot."""
    if slot & 1 == 1:
        return ends[slot // 2]
    low = ends[slot // 2 - 1] if slot > 0 else None
    high = ends[slot // 2] if slot < 2 * len(ends) else None
    return two_between(low, high)[0]


def place_in(piece, number):
    """Where a piece has a number."""
    low, high, term = piece
    if term.times[0] == 0:
        return low
    return (number - term.number).over(term.times[0])


def twice_of(tree):
    """A pair of shares, the lesser one first, at which the numbers of a tree are equal; None if there is none."""
    told = turns(tree)
    open_ones = stretches(tree, told)
    for low, high, term in open_ones:
        if term.times[0] == 0:
            return two_between(low, high)
    # What is left is level only where it is a single point.
    pieces = [*open_ones, *[(share, share, Term.constant(here)) for share, before, here, behind in told]]
    ends = ascending([end for piece in pieces for end in ends_of(piece) if end is not None])
    slots = {(end.top, end.bottom): 2 * at + 1 for at, end in enumerate(ends)}
    found = shared_slot(pieces, slots)
    if found is None:
        return None
    slot, one, other = found
    number = number_in(slot, ends)
    first, second = place_in(one, number), place_in(other, number)
    return (first, second) if first < second else (second, first)
