"""How many layers a function of two inputs needs, and networks with just so many."""

from rampworks.base.checks import is_just, is_told, is_whole
from rampworks.base.linear import difference_of, sum_of, times
from rampworks.errors import InvalidOperation, TooMany
from rampworks.hull.borders import way_round
from rampworks.net.networks import MOST_IN_LAYER, Network, form_network, unit_row
from rampworks.plane.fans import is_ray, need_plane_reading
from rampworks.plane.least import least_steps, least_told, need_plane_lot
from rampworks.plane.walks import corners_walked, first_form, rest_of

# Integers of at most forty digits lead to weights that a network can have.
TOO_LONG = 10 ** 40


def fan_of(way):
    """The triangles of the first corner and two neighbours, and the cuts between them, as corners in turn."""
    triangles = [(way[0], one, other) for one, other in zip(way[1:], way[2:])]
    return triangles, [(way[0], tip) for tip in way[2:-1]]


def cut_up(lot):
    """The triangles, and the cuts between them, that the lot is cut up into at its least corner."""
    need_plane_lot(lot)
    way = way_round(lot)
    if len(way) < 3:
        return ((tuple(way),), ())
    triangles, cuts = fan_of(way)
    return tuple([tuple(sorted(triangle)) for triangle in triangles]), tuple([tuple(sorted(pair)) for pair in cuts])


def counts_of(many):
    """How many units in both layers a lot of so many corners takes."""
    return (2 * many - 5, many - 2) if many > 2 else (many - 1, 0)


def unit_counts(reading):
    """How many units in both layers the function takes by its least reading."""
    need_plane_reading(reading)
    above, below, _ = least_steps(reading)
    return sum_of(counts_of(corners_walked(above)), counts_of(corners_walked(below)))


def depth_of(found):
    """The least depth of a function with these bends along rows."""
    if not found:
        return 0
    return 1 if all([found.get((-row[0], -row[1]), 0) == found[row] for row in found]) else 2


def least_depth(reading):
    """The least depth of the function of the reading."""
    need_plane_reading(reading)
    return depth_of(rest_of(reading))


def planes_of(reading, found):
    """The form and the planes of a function of the least depth 1: pairs of a row and the number of its ramp."""
    planes = tuple([(row, found[row]) for row in sorted(found) if row > (0, 0)])
    form = first_form(reading)
    for row, c in planes:
        # Just behind (1, 0) all of these ramps are on.
        form = difference_of(form, times(row, c))
    return form, planes


def unlike_bend(found):
    """A ray at which a function of the least depth 2 bends, by how much, and by how much at the opposite one."""
    for x, y in found:
        one, other = found[(x, y)], found.get((-x, -y), 0)
        if one != other:
            return (y, -x), one, other
    return None


def depth_paper(reading):
    """What shows the least depth of the function of the reading."""
    need_plane_reading(reading)
    found = rest_of(reading)
    depth = depth_of(found)
    if depth == 0:
        return "form", first_form(reading)
    if depth == 1:
        form, planes = planes_of(reading, found)
        return "planes", form, planes
    ray, one, other = unlike_bend(found)
    return "unlike", ray, one, other


def is_depth_paper(reading, value):
    """Whether the value shows the least depth of the function of the reading."""
    need_plane_reading(reading)
    found = rest_of(reading)
    depth = depth_of(found)
    if is_told(value, "form", 2):
        return depth == 0 and is_just(value[1], first_form(reading))
    if is_told(value, "planes", 3):
        return depth == 1 and is_just(value[1:], planes_of(reading, found))
    if is_told(value, "unlike", 4):
        _, ray, one, other = value
        if not is_ray(ray) or not is_whole(one) or not is_whole(other) or one == other:
            return False
        x, y = ray
        return found.get((-y, x), 0) == one and found.get((y, -x), 0) == other
    return False


def need_few_units(many):
    """Refuses more units than a layer has."""
    if many > MOST_IN_LAYER:
        raise TooMany(MOST_IN_LAYER)


def put_lot(way, sign, first, second, form):
    """Puts what tells the value of a lot, times the sign, to the units of both layers; gives the form then.

    The first units are pairs of a row and what they have in the last row; the second ones have the place of a first
    one, of which each has its value once, their row for the inputs and what they have in the last row.
    """
    if len(way) < 3:
        for tip in way[1:]:
            first.append((difference_of(tip, way[0]), sign))
        return sum_of(form, times(way[0], sign))
    triangles, cuts = fan_of(way)
    for tip, one, other in triangles:
        # The greatest of three is the third one and the ramp of what the greater one of the others is above it.
        second.append((len(first), difference_of(tip, other), sign))
        # The ramp of a cut is that of the triangle beside it, but for the first one, which has none.
        first.append((difference_of(one, tip), -sign if one != way[1] else 0))
        form = sum_of(form, times(other, sign))
    return difference_of(form, times(way[0], sign * len(cuts)))


def deep_network(least):
    """The network with two layers that a least reading makes."""
    first, second, form = [], [], (0, 0)
    for lot, sign in zip(least, (1, -1)):
        form = put_lot(way_round(lot), sign, first, second, form)
    units = tuple([row for row, _ in first])
    further = []
    for place, row, _ in second:
        further.append(row + unit_row(place, len(first)))
    weights = [weight for _, weight in first] + [weight for _, _, weight in second]
    return Network(2, (units, tuple(further)), form + tuple(weights))


def network_for(reading):
    """A network with just the least depth that tells the function of the reading."""
    need_plane_reading(reading)
    if not all([-TOO_LONG < x < TOO_LONG for lot in reading for point in lot for x in point]):
        raise InvalidOperation("an integer has more than forty digits")
    found = rest_of(reading)
    depth = depth_of(found)
    if depth == 0:
        return form_network(first_form(reading))
    if depth == 1:
        form, planes = planes_of(reading, found)
        need_few_units(len(planes))
        return Network(2, (tuple([row for row, _ in planes]),), form + tuple([c for _, c in planes]))
    above, below, _ = least_steps(reading)
    for many in sum_of(counts_of(corners_walked(above)), counts_of(corners_walked(below))):
        need_few_units(many)
    return deep_network(least_told(reading, above, below))
