"""Lots parted into simplices, and their volumes; points have at most four members here."""

from rampworks.base.checks import are_ascending, are_whole
from rampworks.base.lattices import kernel_of
from rampworks.base.linear import difference_of, product_of, tells
from rampworks.hull.borders import way_round
from rampworks.hull.shells import first_independent, plane_of, shell_of


def forms_at(points, length):
    """The basis of the forms that tell one number for all of the points."""
    start = first_independent(points)
    return kernel_of([difference_of(points[index], points[0]) for index in start[1:]], length)


def area_of(way):
    """Twice the area within a way round with its inside on the left."""
    return sum([a * d - b * c for (a, b), (c, d) in zip(way, way[1:] + way[:1])])


def volume_of(points):
    """vol of ascending points: 0 if they lie on one plane."""
    length = len(points[0])
    if length == 1:
        return points[-1][0] - points[0][0]
    if length == 2:
        return area_of(way_round(points))
    shell = shell_of(points)
    return 0 if shell is None else shell.size


def parted(tips):
    """The simplices of a parting of ascending corners, as indices; none if the corners lie on one plane."""
    if len(tips) <= len(tips[0]):
        return []
    if len(tips[0]) == 1:
        return [(0, 1)]
    places = {tip: at for at, tip in enumerate(tips)}
    if len(tips[0]) == 2:
        way = [places[tip] for tip in way_round(tips)]
        return sorted([tuple(sorted([way[0], one, other])) for one, other in zip(way[1:], way[2:])])
    shell = shell_of(tips)
    if shell is None:
        return []
    labels = [places[point] for point in shell.points]
    return sorted([tuple(sorted([labels[index] for index in simplex])) for simplex in shell.simplices])


def are_simplices(points, value):
    """Whether the value is an ascending tuple, not empty, of ascending tuples of one index more than members."""
    if not isinstance(value, tuple) or not value:
        return False
    size, many = len(points[0]) + 1, len(points)
    for simplex in value:
        if not isinstance(simplex, tuple) or len(simplex) != size or not are_whole(simplex):
            return False
        if simplex[0] < 0 or simplex[-1] >= many or not are_ascending(simplex):
            return False
    return are_ascending(value)


def opposites_of(simplices):
    """For each facet the indices that lie opposite to it in its simplices; None if one has more than two."""
    found = {}
    for simplex in simplices:
        for at, index in enumerate(simplex):
            facet = simplex[:at] + simplex[at + 1:]
            if facet not in found:
                found[facet] = [index]
            elif len(found[facet]) == 2:
                return None
            else:
                found[facet].append(index)
    return found


def planes_shut(points, opposites):
    """The planes of the facets: None unless those of one simplex are on the rim, and those of two between them."""
    planes = {}
    spots = [(*point, 1) for point in points]
    for facet in opposites:
        plane = plane_of([points[index] for index in facet])
        indices = opposites[facet]
        side = product_of(plane, spots[indices[0]])
        if side == 0:
            return None
        if len(indices) == 2:
            if side * product_of(plane, spots[indices[1]]) >= 0:
                return None
        else:
            sides = tells(plane, spots)
            if min(sides) < 0 < max(sides):
                return None
        planes[facet] = plane
    return planes


def does_meet(spots, planes, simplex, middle):
    """Whether the middle, told as a sum of one point more than members, lies in the simplex or on its rim."""
    for at, index in enumerate(simplex):
        plane = planes[simplex[:at] + simplex[at + 1:]]
        if product_of(plane, middle) * product_of(plane, spots[index]) < 0:
            return False
    return True


def is_parted(points, simplices):
    """Whether the simplices are a parting of the points."""
    if not are_simplices(points, simplices):
        return False
    opposites = opposites_of(simplices)
    if opposites is None:
        return False
    planes = planes_shut(points, opposites)
    if planes is None:
        return False
    spots = [(*point, 1) for point in points]
    chosen = [spots[index] for index in simplices[0]]
    middle = [sum(line) for line in zip(*chosen)]
    for simplex in simplices[1:]:
        if does_meet(spots, planes, simplex, middle):
            return False
    return True
