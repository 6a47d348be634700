"""Simplices of points, the facets between them, and lots parted into simplices."""

from rampworks.base.checks import are_ascending, is_whole
from rampworks.base.lattices import kernel_of
from rampworks.base.linear import determinant_of, difference_of, eliminated, product_of, sum_of


def leads_from(points):
    """The differences of all other points to the first one."""
    return [difference_of(point, points[0]) for point in points[1:]]


def independent(points):
    """Indices of points, ascending, that span the plane of all of them and have no one too many."""
    leads = leads_from(points)
    if not leads:
        return [0]
    chosen, _, _ = eliminated(leads)
    return [0] + sorted([index + 1 for index in chosen])


def forms_at(points, length):
    """The basis of the forms that tell one number for all of the points."""
    leads = leads_from([points[index] for index in independent(points)])
    return kernel_of(leads, length)


def size_of(points):
    """The size of the determinant of the differences of a simplex."""
    return abs(determinant_of(leads_from(points)))


def plane_of(points):
    """The pair (form, number): the form tells the number just on the plane of n points with n members."""
    leads, form, sign = leads_from(points), [], 1
    for at in range(len(points[0])):
        form.append(sign * determinant_of([lead[:at] + lead[at + 1:] for lead in leads]))
        sign = -sign
    return tuple(form), product_of(form, points[0])


def side_of(plane, point):
    """On which side of the plane the point lies: 1, -1, or 0 on it."""
    form, number = plane
    told = product_of(form, point) - number
    return 1 if told > 0 else -1 if told < 0 else 0


def facets_of(simplex):
    """The pairs of a facet and the index that lies opposite to it."""
    return [(simplex[:at] + simplex[at + 1:], index) for at, index in enumerate(simplex)]


def put_facets(rim, points, simplex):
    """Puts the facets of a simplex to the rim, with outward planes, or takes those off that come a second time."""
    for facet, index in facets_of(simplex):
        if facet in rim:
            del rim[facet]
            continue
        form, number = plane_of([points[k] for k in facet])
        if side_of((form, number), points[index]) > 0:
            form, number = tuple([-x for x in form]), -number
        rim[facet] = (form, number)


def parted(points):
    """The simplices of a parting of cut points that do not lie on one plane."""
    start = independent(points)
    simplices, rim = [tuple(start)], {}
    put_facets(rim, points, simplices[0])
    for index in range(len(points)):
        if index in start:
            continue
        # A point beyond what is parted so far makes a simplex with each facet that faces it.
        facing = [facet for facet in rim if side_of(rim[facet], points[index]) > 0]
        for facet in facing:
            simplex = tuple(sorted([*facet, index]))
            simplices.append(simplex)
            put_facets(rim, points, simplex)
    return sorted(simplices)


def volume_of(points):
    """vol of cut points: 0 if they lie on one plane."""
    if len(independent(points)) <= len(points[0]):
        return 0
    return sum([size_of([points[index] for index in simplex]) for simplex in parted(points)])


def are_simplices(points, value):
    """Whether the value is an ascending tuple, not empty, of ascending tuples of one index more than members."""
    if not isinstance(value, tuple) or not value:
        return False
    for simplex in value:
        if not isinstance(simplex, tuple) or len(simplex) != len(points[0]) + 1:
            return False
        if not all([is_whole(index) and 0 <= index < len(points) for index in simplex]):
            return False
        if not are_ascending(simplex):
            return False
    return are_ascending(value)


def sides_told(points, simplices):
    """For each facet its plane and the sides of it on which simplices lie, or None if a simplex is flat."""
    planes, sides = {}, {}
    for simplex in simplices:
        for facet, index in facets_of(simplex):
            if facet not in planes:
                planes[facet] = plane_of([points[k] for k in facet])
                sides[facet] = []
            side = side_of(planes[facet], points[index])
            if side == 0:
                return None
            sides[facet].append(side)
    return planes, sides


def is_on_rim(plane, points):
    """Whether all points lie on the plane or on one side of it."""
    sides = [side_of(plane, point) for point in points]
    return 1 not in sides or -1 not in sides


def is_shut(points, planes, sides):
    """Whether facets on the rim are facets of one simplex, and others of two, on two sides."""
    for facet in sides:
        told = sides[facet]
        if len(told) > 2 or len(told) == 2 and told[0] == told[1]:
            return False
        if len(told) == 1 and not is_on_rim(planes[facet], points):
            return False
    return True


def does_meet(points, planes, simplex, middle):
    """Whether the middle, told as a sum of one point more than members, lies in the simplex or on its rim."""
    for facet, index in facets_of(simplex):
        form, number = planes[facet]
        side = side_of((form, number * len(simplex)), middle)
        if side * side_of(planes[facet], points[index]) < 0:
            return False
    return True


def is_parted(points, simplices):
    """Whether the simplices are a parting of the points."""
    if not are_simplices(points, simplices):
        return False
    told = sides_told(points, simplices)
    if told is None:
        return False
    planes, sides = told
    if not is_shut(points, planes, sides):
        return False
    middle = (0,) * len(points[0])
    for index in simplices[0]:
        middle = sum_of(middle, points[index])
    return not any([does_meet(points, planes, simplex, middle) for simplex in simplices[1:]])
