"""Sums of sticks: what bundles make, which sticks are parts of a lot, and plates that are not symmetric."""

from rampworks.base.checks import are_short, is_short_row, is_told, is_whole, is_whole_row
from rampworks.base.linear import difference_of, product_of, sum_of, times
from rampworks.errors import InvalidOperation, InvalidRow, TooMany
from rampworks.hull.corners import need_lot, need_point_row, need_same_length
from rampworks.hull.cuts import greatest_points, independent_places
from rampworks.hull.frames import frame_of
from rampworks.hull.sums import edge_told, edges_of
from rampworks.hull.volumes import MOST_CORNERS, MOST_WIDE, few_corners
from rampworks.net.mixes import mixed_lot
from rampworks.stick.spans import (
    edges_along, fibers_along, form_along, has_single, is_heading, length_between, shade_corners)

MOST_STICKS = 30


def is_bundle(value):
    """Whether the value is a bundle of sticks of rows of one to four members."""
    if not isinstance(value, tuple) or len(value) > MOST_STICKS:
        return False
    for stick in value:
        if not isinstance(stick, tuple) or len(stick) != 2 or not is_whole(stick[1]) or stick[1] < 1:
            return False
        if not isinstance(stick[0], tuple) or not 1 <= len(stick[0]) <= MOST_WIDE:
            return False
        if not is_heading(stick[0], len(value[0][0])):
            return False
    return all([one[0] < other[0] for one, other in zip(value, value[1:])])


def is_bundle_for(value, row):
    """Whether the value is a bundle of sticks of rows as long as the row."""
    return is_bundle(value) and (not value or len(value[0][0]) == len(row))


def bundle_lot(row, bundle, most):
    """The lot that the bundle makes from the row, None if it has more corners than `most`."""
    zeros = (0,) * len(row)
    total = mixed_lot([(c, {zeros: None, lead: None}) for lead, c in bundle], row, most)
    return None if total is None else tuple(total)


def made_by(row, bundle):
    """The lot of corners that the bundle makes from the row."""
    if not is_short_row(row, 1, MOST_WIDE):
        raise InvalidRow("a row has one to four members here")
    if not is_bundle_for(bundle, row):
        raise InvalidOperation("this is no bundle of rows of this length")
    if not all([are_short((*lead, c)) for lead, c in bundle]):
        raise InvalidOperation("integers have at most sixty digits")
    lot = bundle_lot(row, bundle, MOST_CORNERS)
    if lot is None:
        raise TooMany(MOST_CORNERS)
    return lot


def are_symmetric(tips):
    """Whether some row less each of the ascending corners is one of them."""
    total = sum_of(tips[0], tips[-1])
    return all([sum_of(one, other) == total for one, other in zip(tips, tips[::-1])])


def is_symmetric(lot):
    """Whether the lot of the corners is symmetric."""
    return are_symmetric(few_corners(lot))


def plate_told(tips, row):
    """The corners that are greatest for the row, None if they do not lie in a plane and on no line."""
    found = greatest_points(tips, row)
    return found if len(independent_places(found)) == 2 else None


def plate_at(lot, row):
    """The plate of the lot at the row, None if there is none."""
    need_lot(lot)
    need_point_row(row)
    need_same_length(lot, row)
    return plate_told(few_corners(lot), row)


def lengths_along(tips, row):
    """For each corner of the shadow along the row how long what lies over it is."""
    fibers = fibers_along(tips, row)
    found = {}
    for shade in shade_corners(fibers):
        indices = fibers[shade]
        found[shade] = length_between(tips[indices[0]], tips[indices[-1]], row)
    return found


def most_stick(lot, row):
    """The greatest number for which the stick of the row is a part of the lot, 0 if none is."""
    need_lot(lot)
    if not is_short_row(row, len(lot[0]), len(lot[0])) or not is_heading(row, len(lot[0])):
        raise InvalidOperation("this is no row of a stick as long as the points")
    return min(list(lengths_along(few_corners(lot), row).values()))


def parts_in(tips, along):
    """The bundle of all parts of a lot, of which the edges along each row are told."""
    dimension, found = len(independent_places(tips)), []
    for row in sorted(along):
        pairs = along[row]
        if not has_single(tips, row, len(pairs), dimension):
            found.append((row, min([length_between(tips[one], tips[other], row) for one, other in pairs])))
    return tuple(found)


def left_without(tips, forms, bundle):
    """The corners of what makes the corners with a bundle of parts from 0."""
    found = {}
    for tip, form in zip(tips, forms):
        for row, c in bundle:
            if product_of(form, row) > 0:
                tip = difference_of(tip, times(row, c))
        found[tip] = True
    return tuple(sorted(found))


def bared(lot):
    """The bundle of all parts of the lot, and what is left without them."""
    tips = few_corners(lot)
    edges, forms = frame_of(tips)
    bundle = parts_in(tips, edges_along(tips, edges))
    return bundle, left_without(tips, forms, bundle)


def unlike_plate(tips, along):
    """A row at which there is a plate that is not symmetric, None if there is none."""
    dimension = len(independent_places(tips))
    for row in along:
        pairs = along[row]
        first = [length_between(tips[one], tips[other], row) for one, other in pairs]
        if min(first) != max(first) or has_single(tips, row, len(pairs), dimension):
            return form_along(unlike_edge(lengths_along(tips, row)), row)
    return None


def unlike_edge(lengths):
    """A form of which an edge of the shadow is the face over whose ends the lengths are unlike."""
    shades = list(lengths)
    for one, other in edges_of(tuple(shades)):
        if lengths[shades[one]] != lengths[shades[other]]:
            return edge_told(shades, one, other)[1]
    return None


def sticks_or_plate(lot):
    """EITHER the bundle that makes the corners of the lot, from a row, OR a row with a plate that is not symmetric."""
    tips = few_corners(lot)
    edges, forms = frame_of(tips)
    along = edges_along(tips, edges)
    row = unlike_plate(tips, along)
    if row is not None:
        return "plate", row
    bundle = parts_in(tips, along)
    return "sticks", left_without(tips, forms, bundle)[0], bundle


def is_sticks_or_plate(lot, value):
    """Whether the value is right."""
    tips = few_corners(lot)
    if is_told(value, "plate", 2):
        if not is_whole_row(value[1], len(tips[0])):
            return False
        plate = plate_told(tips, value[1])
        return plate is not None and not are_symmetric(plate)
    if is_told(value, "sticks", 3):
        _, row, bundle = value
        if not is_whole_row(row, len(tips[0])) or not is_bundle_for(bundle, row):
            return False
        return bundle_lot(row, bundle, MOST_CORNERS) == tips
    return False
