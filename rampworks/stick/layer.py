"""Functions that one layer tells: by how much they bend where, and the networks, or places that bar them."""

from rampworks.base.checks import is_short_row, is_told, is_whole_row
from rampworks.base.linear import content_of, difference_of, head_place, product_of, sum_of, times
from rampworks.errors import InvalidOperation, Refused, TooMany
from rampworks.hull.cuts import cut, greatest_points, independent_places
from rampworks.hull.frames import frame_of
from rampworks.hull.totals import sum_cut, ways_of
from rampworks.net.networks import Network, form_network
from rampworks.net.readings import need_reading
from rampworks.stick.flats import flat_leads, lengths_told, line_bends, plane_bends, plane_places
from rampworks.stick.spans import (
    edges_along, fibers_along, form_along, has_single, is_heading, length_between, shade_corners)

MOST_WIDE = 4
MOST_TIPS = 60
# Integers of at most thirty digits lead to weights that a network can have.
TOO_LONG = 10 ** 30


def need_narrow_reading(reading):
    """Refuses what is no reading of points of at most four members."""
    need_reading(reading)
    if len(reading[0][0]) > MOST_WIDE:
        raise InvalidOperation("points have at most four members here")


def few_tips(tips):
    """Gives corners back, but refuses too many."""
    if len(tips) > MOST_TIPS:
        raise TooMany(MOST_TIPS)
    return tips


def need_ways(reading):
    """For each corner of the sum of both lots of a reading the pair of corners that make it."""
    above = few_tips(cut(reading[0], MOST_TIPS))
    below = few_tips(cut(reading[1], MOST_TIPS))
    totals = few_tips(sum_cut(above, below, MOST_TIPS))
    ways, found = ways_of(above, below), {}
    for total in totals:
        at, beside = ways[total]
        found[total] = (above[at], below[beside])
    return found


def length_of(points, row):
    """How many times the row leads from the first to the last of ascending points; None if one lies elsewhere."""
    numbers = [length_between(points[0], point, row) for point in points]
    return None if None in numbers else numbers[-1]


def lengths_at(reading, place):
    """The lengths of both lots along the row of a place; None for one that is not greatest on one line along it."""
    row, y = place
    return [length_of(greatest_points(lot, y), row) for lot in reading]


def are_place(reading, value):
    """Whether the value is a place of a reading."""
    length = len(reading[0][0])
    if not isinstance(value, tuple) or len(value) != 2:
        return False
    if not is_heading(value[0], length) or not is_whole_row(value[1], length) or product_of(value[0], value[1]) != 0:
        return False
    return None not in lengths_at(reading, value)


def is_place(reading, value):
    """Whether the value is a place of the reading."""
    need_narrow_reading(reading)
    return are_place(reading, value)


def bend_told(reading, place):
    """By how much the function of a reading bends at a place."""
    above, below = lengths_at(reading, place)
    return above - below


def bend_at(reading, place):
    """By how much the function of the reading bends at the place."""
    need_narrow_reading(reading)
    length = len(reading[0][0])
    if not are_place(reading, place) or not all([is_short_row(row, length, length) for row in place]):
        raise InvalidOperation("this is no place of the reading")
    return bend_told(reading, place)


def bend_between(one, other, row):
    """By how much a function bends along a row that leads from a pair of corners of both lots to another one."""
    return length_between(one[0], other[0], row) - length_between(one[1], other[1], row)


def bends_told(ways):
    """The triples of the rows along which the function bends, with the least and the greatest number."""
    tips = tuple(ways)
    edges, _ = frame_of(tips)
    along, dimension, found = edges_along(tips, edges), len(independent_places(tips)), []
    for row in sorted(along):
        numbers = [bend_between(ways[tips[one]], ways[tips[other]], row) for one, other in along[row]]
        least, most = min(numbers), max(numbers)
        # At the places over which there is one corner alone it does not bend.
        if (least > 0 or most < 0) and has_single(tips, row, len(numbers), dimension):
            least, most = min(0, least), max(0, most)
        if least != 0 or most != 0:
            found.append((row, least, most))
    return tuple(found)


def need_plane_bends(reading):
    """The same of a function of two inputs, with the errors of too many corners."""
    above, below = flat_leads(reading[0]), flat_leads(reading[1])
    lower, upper = lengths_told(above[0], below[0]), lengths_told(above[1], below[1])
    # The sum of both lots has a corner for each row on each border, and no less than one of both.
    if len(lower) + len(upper) > MOST_TIPS:
        raise TooMany(MOST_TIPS)
    return plane_bends(lower, upper)


def need_bends(reading):
    """The triples, and the corners that make those of the sum of both lots, None for less than three inputs."""
    need_narrow_reading(reading)
    length = len(reading[0][0])
    if length == 1:
        return line_bends(reading), None
    if length == 2:
        return need_plane_bends(reading), None
    ways = need_ways(reading)
    return bends_told(ways), ways


def bends(reading):
    """The triples of the rows along which the function bends, with the least and the greatest number."""
    told, _ = need_bends(reading)
    return told


def unlike_places(ways, told):
    """Two places of one row with unlike bends, None if there are none."""
    for row, least, most in told:
        if least != most:
            return plane_places(row) if ways is None else two_places(ways, row)
    return None


def two_places(ways, row):
    """Two places of the row with unlike bends."""
    tips = tuple(ways)
    fibers = fibers_along(tips, row)
    shades = shade_corners(fibers)
    _, forms = frame_of(shades)
    first, begin = None, None
    for shade, form in zip(shades, forms):
        indices = fibers[shade]
        bend = bend_between(ways[tips[indices[0]]], ways[tips[indices[-1]]], row)
        place = (row, form_along(form, row))
        if first is None:
            first, begin = bend, place
        elif bend != first:
            return begin, place
    return None


def planes_told(reading, told):
    """The form and the planes of a function that bends along each row by one number: a form and a dict."""
    # Where the last points of both lots are greatest all rows of ramps are on, since their heads are above 0.
    form, planes = difference_of(reading[0][-1], reading[1][-1]), {}
    for row, c, _ in told:
        form = difference_of(form, times(row, c))
        planes[row] = c
    return form, planes


def layer_network(form, planes):
    """The network of one layer with a unit for each plane, or without layers if there is none."""
    if not planes:
        return form_network(form)
    return Network(len(form), (tuple(planes),), form + tuple([planes[row] for row in planes]))


def layer_or_places(reading):
    """EITHER a network of one layer, OR two places of one row with unlike bends."""
    told, ways = need_bends(reading)
    if not all([-TOO_LONG < x < TOO_LONG for lot in reading for point in lot for x in point]):
        raise TooMany(TOO_LONG)
    places = unlike_places(ways, told)
    if places is not None:
        return "places", places[0], places[1]
    form, planes = planes_told(reading, told)
    return "layer", layer_network(form, planes)


def planes_in(network):
    """The form and the planes of what a network of at most one layer tells."""
    form, planes = network.last[:network.inputs], {}
    for unit, weight in zip(network.units, network.last[network.inputs:]):
        size = content_of(unit)
        if size == 0:
            continue
        if unit[head_place(unit)] < 0:
            # The ramp of a row is that of the opposite one, and the row.
            form = sum_of(form, times(unit, weight))
            size = -size
        row = tuple([x // size for x in unit])
        planes[row] = planes.get(row, 0) + weight * abs(size)
    return form, {row: planes[row] for row in planes if planes[row] != 0}


def is_layer(reading, told, network):
    """Whether the network is one of at most one layer for the function, with a unit for each plane."""
    if network.depth > 1 or len(network.units) != len(told):
        return False
    if network.inputs != len(reading[0][0]) or any([least != most for _, least, most in told]):
        return False
    return planes_in(network) == planes_told(reading, told)


def need_few_sums(reading):
    """Refuses what is no reading with few corners; its bends are not told where this is slow."""
    need_narrow_reading(reading)
    if len(reading[0][0]) <= 2:
        need_bends(reading)
        return
    above, below = few_tips(cut(reading[0], MOST_TIPS)), few_tips(cut(reading[1], MOST_TIPS))
    if len(above) * len(below) > MOST_TIPS:
        few_tips(sum_cut(above, below, MOST_TIPS))


def is_layer_or_places(reading, value):
    """Whether the value shows that one layer tells the function, with as few units as can be, or that none does."""
    if is_told(value, "layer", 2) and isinstance(value[1], Network):
        told, _ = need_bends(reading)
        return is_layer(reading, told, value[1])
    need_few_sums(reading)
    if is_told(value, "places", 3):
        _, one, other = value
        if not are_place(reading, one) or not are_place(reading, other) or one[0] != other[0]:
            return False
        return bend_told(reading, one) != bend_told(reading, other)
    return False


def least_units(reading):
    """The fewest units of one layer that tell the function of the reading."""
    told, ways = need_bends(reading)
    places = unlike_places(ways, told)
    if places is not None:
        raise Refused(("places", places[0], places[1]))
    return len(told)
