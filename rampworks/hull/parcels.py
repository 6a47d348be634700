"""Mixed volumes of cut lots: told by the facets of a sum, and by what its volume is made of."""

from rampworks.base.choices import lots_of_indices
from rampworks.base.lattices import kernel_of
from rampworks.base.linear import content_of, determinant_of, difference_of, eliminated, mixture, tells
from rampworks.hull.borders import plane_sum
from rampworks.hull.cuts import greatest_points
from rampworks.hull.simplices import volume_of
from rampworks.hull.supports import shell_in_sum
from rampworks.hull.totals import shape_of, ways_of

# More corners than any sum has that is looked at here.
ALL_TIPS = 10 ** 6


def leads_of(lot):
    """Independent differences of points of a lot to the first one, as pairs of the index of a point and of it."""
    leads = [difference_of(point, lot[0]) for point in lot]
    chosen, _, _ = eliminated(leads)
    return [(index, leads[index]) for index in sorted(chosen)]


def rank_of(rows):
    """How many of the rows are independent."""
    if not rows:
        return 0
    chosen, _, _ = eliminated(rows)
    return len(chosen)


def low_lots(leads):
    """The first indices of some lots, told by their leads, whose sum has a lesser dimension than they are many."""
    for size in range(1, len(leads) + 1):
        for lot in lots_of_indices(len(leads), size):
            if rank_of([row for k in lot for _, row in leads[k]]) < size:
                return lot
    return None


def shapes_in(lots):
    """The shapes of lots of two points or more, each once: their sum has its corners and facets as that of all lots."""
    found = {}
    for lot in lots:
        if len(lot) > 1:
            shape, _ = shape_of(lot)
            found[shape] = True
    return list(found)


def outward_forms(lots):
    """The primitive forms that lead out of the sum of lots at its facets; both of them if it lies on one plane."""
    shell = shell_in_sum(shapes_in(lots), [], ALL_TIPS)
    if shell is None:
        forms = kernel_of([difference_of(point, lot[0]) for lot in lots for point in lot], len(lots[0][0]))
        return [forms[0], tuple([-x for x in forms[0]])] if len(forms) == 1 else []
    found = {}
    for plane in list(shell.facets.values()):
        size = content_of(plane[:-1])
        found[tuple([x // size for x in plane[:-1]])] = True
    return list(found)


def faces_at(lots, form, place):
    """The faces of cut lots at a form, without the members at a place; None if one of them is one point."""
    found = []
    for lot in lots:
        face = greatest_points(lot, form)
        if len(face) == 1:
            return None
        found.append(tuple(sorted([point[:place] + point[place + 1:] for point in face])))
    return found


def plane_mixed(one, other):
    """The mixed volume of two cut lots of the plane."""
    if len(one) == 2 and len(other) == 2:
        return abs(determinant_of([difference_of(one[1], one[0]), difference_of(other[1], other[0])]))
    return (volume_of(plane_sum(one, other)) - volume_of(one) - volume_of(other)) // 2


def like_mixed(lots):
    """The mixed volume of lots of one shape."""
    total = 1
    for lot in lots:
        shape, number = shape_of(lot)
        total *= number
    return total * volume_of(shape)


def mixed_of(lots):
    """The mixed volume of cut lots: of each facet of the sum of all but one how far this one reaches, times its own."""
    if len(lots) == 1:
        return volume_of(lots[0])
    if len(lots) == 2:
        return plane_mixed(lots[0], lots[1])
    *others, apart = sorted(lots, key=len)
    if len(others[0]) == 1:
        return 0
    if len(shapes_in(lots)) == 1:
        return like_mixed(lots)
    apart, total = [difference_of(point, apart[0]) for point in apart], 0
    for form in outward_forms(others):
        reach, place = max(tells(form, apart)), 0
        while form[place] == 0:
            place += 1
        faces = faces_at(others, form, place) if reach > 0 else None
        if faces is not None:
            # Without the members at the place volumes are as many times greater as the form has there.
            total += reach * (mixed_of(faces) // abs(form[place]))
    return total


def signed_volume(shell, ways, one, other, number):
    """vol of the one lot and so many times the other one, by the facets of the sum of both, but for its sign."""
    tips = [mixture((1, number), (one[at], other[beside]), len(one[0]))
            for at, beside in [ways[point] for point in shell.points]]
    return sum([determinant_of([tips[index] for index in facet]) for facet in shell.facets])


def row_of(one, other):
    """The mixed volumes of i times the one cut lot, and of the other one as often as members are left, i from 0 on.

    vol of the one lot and t times the other one is made of powers of t: it is told for few numbers t.
    """
    length, first, last = len(one[0]), volume_of(one), volume_of(other)
    if length == 1:
        return last, first
    if length == 2:
        return last, plane_mixed(one, other), first
    if len(one) == 1 or len(other) == 1:
        return (last, *(0,) * (length - 1), first)
    shell = shell_in_sum((one, other), [], ALL_TIPS)
    if shell is None:
        return (0,) * (length + 1)
    ways = ways_of(one, other)
    sign = 1 if signed_volume(shell, ways, one, other, 1) > 0 else -1
    turned = sign * signed_volume(shell, ways, one, other, -1)
    even, odd = (shell.size + turned) // 2, (shell.size - turned) // 2
    if length == 3:
        return last, (even - first) // 3, (odd - last) // 3, first
    middle = even - first - last
    twice = sign * signed_volume(shell, ways, one, other, 2)
    most = (twice - first - 4 * middle - 16 * last - 2 * odd) // 6
    return last, most // 4, middle // 6, (odd - most) // 4, first
