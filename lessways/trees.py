"""Ask trees: ("leaf", value), or ("ask", row, no, yes) with the trees behind the answers False and True."""

from lessways.terms import Term


def leaves(tree):
    """The pairs (path, value) of all leaves, those behind False ahead of those behind True."""
    return leaves_behind((), tree)


def leaves_behind(path, tree):
    """The leaves of a tree, their paths with what led to this tree."""
    if tree[0] == "leaf":
        return [(path, tree[1])]
    row = tree[1]
    return [*leaves_behind((*path, (row, False)), tree[2]), *leaves_behind((*path, (row, True)), tree[3])]


def tree_of(found, at):
    """The tree of the pairs (path, value) of all its runs; their paths are the same up to the ask number at."""
    path, value = found[0]
    if len(path) == at:
        return ("leaf", value)
    no = [pair for pair in found if not pair[0][at][1]]
    yes = [pair for pair in found if pair[0][at][1]]
    return ("ask", path[at][0], tree_of(no, at + 1), tree_of(yes, at + 1))


def depth(tree):
    """The length of the longest path."""
    if tree[0] == "leaf":
        return 0
    return 1 + max(int(depth(tree[2])), int(depth(tree[3])))


def side(tree, answer):
    """The tree behind an answer to the first ask of a tree."""
    return tree[3] if answer else tree[2]


def walk(tree, point):
    """The value of the leaf to which the answers at a point lead."""
    at = tree
    while at[0] == "ask":
        at = side(at, at[1].holds(point))
    return at[1]


def pruned(tree):
    """The tree without the asks behind which both sides are equal."""
    if tree[0] == "leaf":
        return tree
    no = pruned(tree[2])
    yes = pruned(tree[3])
    if no == yes:
        return no
    return ("ask", tree[1], no, yes)


def term_at(term, x):
    """A term with other terms, or numbers, in the place of its first unknowns."""
    total = term.number
    for times, worth in zip(term.times, x):
        total = total + times * worth
    return total


def row_at(row, x):
    """A row with other terms in the place of its first unknowns; with numbers there, a truth."""
    if row.strict:
        return term_at(row.term, x) > 0
    return term_at(row.term, x) >= 0


def asked(tree, unknowns):
    """A code that asks its way down a tree."""

    def code(ask, x):
        """The leaf's value at x."""
        first = x[:unknowns]
        at = tree
        while at[0] == "ask":
            at = side(at, ask(row_at(at[1], first)))
        value = at[1]
        return term_at(value, first) if isinstance(value, Term) else value

    return code
