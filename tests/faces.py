"""Points on all faces of rows, found with fractions alone.

A form is a tuple of four integers or fractions: a number and the multiples of the unknowns 0, 1 and 2. For each way
in which forms can be below 0, at 0 and above 0 together, a list of such points has one point at least.
"""

from fractions import Fraction


def worth(form, point):
    """What a form is at a point of fractions."""
    return form[0] + sum(times * share for times, share in zip(form[1:], point))


def around(roots):
    """The roots, a number between each two of them, and one beyond them on either side."""
    told = sorted(set(roots))
    if not told:
        return [Fraction(0)]
    between = [(low + high) / 2 for low, high in zip(told, told[1:])]
    return sorted([told[0] - 1, *told, *between, told[-1] + 1])


def without(forms, k):
    """Forms without unknown k, by which the order of all worths of unknown k at which a form is 0 is told."""
    found = [form for form in forms if form[k + 1] == 0]
    others = [form for form in forms if form[k + 1] != 0]
    for at, one in enumerate(others):
        for other in others[:at]:
            found.append(tuple(a * other[k + 1] - b * one[k + 1] for a, b in zip(one, other)))
    return {simple(form) for form in found if any(form[1:])}


def simple(form):
    """A form divided by its last multiple that is not 0."""
    last = [number for number in form if number][-1]
    return tuple(Fraction(number) / last for number in form)


def signs(forms, point):
    """Whether each form is above 0 (1), at 0 (0) or below 0 (-1) at a point."""
    told = [worth(form, point) for form in forms]
    return tuple((share > 0) - (share < 0) for share in told)


def points_of(forms, unknowns):
    """Points, of so many fractions each, on all faces of forms."""
    layers = [{simple(form) for form in forms if any(form[1:])}]
    for k in range(unknowns - 1, 0, -1):
        layers.append(without(layers[-1], k))
    points = [()]
    for k, layer in enumerate(reversed(layers)):
        longer = []
        for point in points:
            roots = [-worth(form, point) / form[k + 1] for form in layer if form[k + 1]]
            longer.extend((*point, share) for share in around(roots))
        points = longer
    return points


def faces_of(forms, unknowns):
    """One point on each face of forms."""
    found = {}
    for point in points_of(forms, unknowns):
        found.setdefault(signs(forms, point), point)
    return list(found.values())
