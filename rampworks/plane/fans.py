"""Functions of two inputs, told going round: their forms and bends, and their values at the rays of smooth fans."""

from math import gcd

from rampworks.base.checks import are_short, is_short_row, is_whole, is_whole_row
from rampworks.base.linear import product_of
from rampworks.errors import InvalidOperation, InvalidRow, TooMany
from rampworks.net.readings import need_reading
from rampworks.plane.turns import are_in_turn, det, in_turn, is_ahead, rays_between, smoothed
from rampworks.plane.walks import first_form, rest_of

MOST_RAYS = 64
MOST_BENDS = 800
EAST = (1, 0)
AXES = ((1, 0), (0, 1), (-1, 0), (0, -1))


def is_ray(value):
    """Whether the value is a ray."""
    return is_whole_row(value, 2) and gcd(value[0], value[1]) == 1


def are_bends(value):
    """Whether the value is a tuple of pairs of a ray and an integer other than 0, the rays in turn."""
    if not isinstance(value, tuple):
        return False
    for pair in value:
        if not isinstance(pair, tuple) or len(pair) != 2:
            return False
        if not is_ray(pair[0]) or not is_whole(pair[1]) or pair[1] == 0:
            return False
    return are_in_turn([ray for ray, _ in value])


def is_round(value):
    """Whether the value is the round of some function."""
    if not isinstance(value, tuple) or len(value) != 2 or not is_whole_row(value[0], 2) or not are_bends(value[1]):
        return False
    return sum([ray[0] * c for ray, c in value[1]]) == 0 and sum([ray[1] * c for ray, c in value[1]]) == 0


def is_smooth(value):
    """Whether the value is a smooth fan."""
    if not isinstance(value, tuple) or len(value) < 3 or not all([is_ray(ray) for ray in value]):
        return False
    if not are_in_turn(value):
        return False
    return all([det(one, other) == 1 for one, other in zip(value, value[1:] + value[:1])])


def need_told(told):
    """Refuses what is no round that can be passed."""
    if not is_round(told) or len(told[1]) > MOST_BENDS or not are_short(told[0]):
        raise InvalidOperation("this is no round of at most 800 bends")
    for ray, c in told[1]:
        if not are_short((*ray, c)):
            raise InvalidOperation("integers have at most sixty digits")


def need_ray(ray):
    """Refuses what is no ray that can be passed."""
    if not is_short_row(ray, 2, 2) or not is_ray(ray):
        raise InvalidRow("this is no ray")


def need_fan(fan):
    """Refuses what is no smooth fan that can be passed."""
    if not is_smooth(fan) or len(fan) > MOST_RAYS or not all([are_short(ray) for ray in fan]):
        raise InvalidOperation("this is no smooth fan of at most 64 rays")


def need_plane_row(row):
    """Refuses what is no row of two."""
    if not is_short_row(row, 2, 2):
        raise InvalidRow("a row has two members here")


def need_plane_reading(reading):
    """Refuses what is no reading of points with two members."""
    need_reading(reading)
    if len(reading[0][0]) != 2:
        raise InvalidOperation("points have two members here")


def round_told(reading):
    """The round of the function of a reading of points with two members."""
    found = rest_of(reading)
    # The ray that leads straight out of an edge is the row of this, turned back by a quarter.
    bends = {(y, -x): found[(x, y)] for x, y in found}
    return first_form(reading), tuple([(ray, bends[ray]) for ray in in_turn(list(bends))])


def round_of(reading):
    """The round of the function of the reading."""
    need_plane_reading(reading)
    return round_told(reading)


def forms_behind(told, rows):
    """The forms just behind directions that come in turn."""
    form, bends = told
    at, found = 0, []
    x, y = form
    if bends and bends[0][0] == EAST:
        # The first form is already the one behind this ray.
        at = 1
    for row in rows:
        while at < len(bends) and not is_ahead(row, bends[at][0]):
            ray, c = bends[at]
            x, y = x - c * ray[1], y + c * ray[0]
            at += 1
        found.append((x, y))
    return found


def value_of_round(told, row):
    """The value at the row of the function with the round."""
    need_told(told)
    need_plane_row(row)
    if row == (0, 0):
        return 0
    return product_of(forms_behind(told, [row])[0], row)


def form_behind(told, row):
    """The form of the function with the round just behind the direction, going round."""
    need_told(told)
    need_plane_row(row)
    if row == (0, 0):
        raise InvalidOperation("(0, 0) is no direction")
    return forms_behind(told, [row])[0]


def put_between(ray, other):
    """The rays between two others that make all det of neighbours 1, as few as there can be."""
    need_ray(ray)
    need_ray(other)
    if det(ray, other) <= 0:
        raise InvalidOperation("the other ray is not less than half a turn on")
    found = rays_between(ray, other, MOST_RAYS)
    if found is None:
        raise TooMany(MOST_RAYS)
    return tuple(found)


def smooth_fan(rays):
    """The least smooth fan with the rays and those of the axes."""
    if not isinstance(rays, tuple) or len(rays) > MOST_RAYS:
        raise InvalidOperation("these are no rays")
    for ray in rays:
        if not is_short_row(ray, 2, 2) or not is_ray(ray):
            raise InvalidOperation("one of these is no ray")
    if len(set(rays)) < len(rays):
        raise InvalidOperation("two rays are alike")
    found = smoothed(in_turn(sorted(set(rays + AXES))), MOST_RAYS)
    if found is None:
        raise TooMany(MOST_RAYS)
    return tuple(found)


def values_on(told, fan):
    """The values at the rays of a smooth fan of the function with the round."""
    need_told(told)
    need_fan(fan)
    return tuple([product_of(form, ray) for form, ray in zip(forms_behind(told, fan), fan)])


def form_between(ray, other, one, two):
    """The form with these two values at two rays with det 1."""
    return one * other[1] - two * ray[1], two * ray[0] - one * other[0]


def round_by_values(fan, values):
    """The round of the function with these values at the rays of a smooth fan that bends at no others."""
    need_fan(fan)
    if not is_short_row(values, len(fan), len(fan)):
        raise InvalidOperation("values have an integer for each ray")
    many, bends = len(fan), []
    for at, ray in enumerate(fan):
        last, further = (at - 1) % many, (at + 1) % many
        c = values[last] + values[further] - det(fan[last], fan[further]) * values[at]
        if c != 0:
            bends.append((ray, c))
    first = 0 if fan[0] == EAST else -1
    form = form_between(fan[first], fan[first + 1], values[first], values[first + 1])
    return form, tuple(bends)
