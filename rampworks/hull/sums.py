"""Sums, joins, faces, shadows and edges of lots."""

from rampworks.base.balance import form_or_weights
from rampworks.base.checks import are_weights, is_short_row, is_told, is_whole, is_whole_row, need_index, need_number
from rampworks.base.linear import difference_of, mixture, product_of, sum_of, tells, times
from rampworks.errors import InvalidNumber, InvalidOperation, TooMany
from rampworks.hull.corners import MOST_MEMBERS, MOST_POINTS, corners_of, need_lot, need_lot_and_row, need_lots
from rampworks.hull.cuts import greatest_points, independent_places, join_cut, shadow_of
from rampworks.hull.frames import frame_at
from rampworks.hull.totals import moved_by, sum_cut

MOST_PAIRS = 2000
MOST_ENDS = 60
# The hull of points of more members has too many facets.
MOST_IN_SHELL = 4


def need_pairs(one, other):
    """Refuses two cut lots with too many pairs of corners."""
    if len(one) * len(other) > MOST_PAIRS:
        raise TooMany(MOST_PAIRS)


def need_few(points):
    """Gives the points back, but refuses too many."""
    if len(points) > MOST_POINTS:
        raise TooMany(MOST_POINTS)
    return points


def bounded_sum(one, other):
    """The sum of two cut lots, with the errors of a sum."""
    need_pairs(one, other)
    return need_few(sum_cut(one, other, MOST_POINTS))


def bounded_join(one, other):
    """The join of two lots, with the error of a join."""
    return need_few(join_cut(one, other, MOST_POINTS))


def scaled_by(lot, number):
    """All points times a number from 0 on."""
    if number == 0:
        return (times(lot[0], 0),)
    return tuple([times(point, number) for point in lot])


def summed(one, other):
    """The sum of two lots."""
    need_lots(one, other)
    return bounded_sum(corners_of(one), corners_of(other))


def joined(one, other):
    """The join of two lots."""
    need_lots(one, other)
    return bounded_join(one, other)


def scaled(lot, number):
    """The corners, times a number from 0 on."""
    need_lot(lot)
    need_number(number)
    if number < 0:
        raise InvalidNumber(number)
    return scaled_by(corners_of(lot), number)


def moved(lot, row):
    """The corners, each and the row."""
    need_lot_and_row(lot, row)
    return moved_by(corners_of(lot), row)


def turned(lot):
    """The corners, times -1."""
    need_lot(lot)
    return tuple([times(point, -1) for point in reversed(corners_of(lot))])


def face(lot, row):
    """The corners that have the value of the lot at the row."""
    need_lot_and_row(lot, row)
    return corners_of(greatest_points(lot, row))


def shadow(lot, rows):
    """The corners of the rows of the products of these rows with each point."""
    need_lot(lot)
    length = len(lot[0])
    if not isinstance(rows, tuple) or not 1 <= len(rows) <= MOST_MEMBERS:
        raise InvalidOperation("a shadow is for one to eight rows")
    if not all([is_short_row(row, length, length) for row in rows]):
        raise InvalidOperation("a shadow is for rows as long as the points")
    return shadow_of(lot, rows)


def corners_with_ends(lot, one, other):
    """The corners of a lot, of which two are given by unlike indices."""
    need_lot(lot)
    tips = corners_of(lot)
    need_index(one, len(tips))
    need_index(other, len(tips))
    if one == other:
        raise InvalidOperation("an edge has two corners")
    return tips


def edge_told(tips, one, other):
    """EITHER ("form", form) for an edge, OR ("weights", weights, share) of the other corners, and along the edge."""
    begin, end = tips[one], tips[other]
    others = [tip for at, tip in enumerate(tips) if at != one and at != other]
    return form_or_weights(((begin, others),), difference_of(end, begin))


def edge_or_crossed(lot, one, other):
    """EITHER a form of which both corners are the face, OR weights that cross the line between them."""
    tips = corners_with_ends(lot, one, other)
    told = edge_told(tips, one, other)
    if told[0] == "form":
        return "edge", told[1]
    _, weights, share = told
    # The other corners by weights are (rest begin + share end): what lacks to equal numbers of both is put to them.
    rest = sum(weights) - share
    number, found = max(rest, share), list(weights)
    ends = ((one, number - rest), (other, number - share))
    for at, weight in sorted(ends):
        found.insert(at, weight)
    return "crossed", number, tuple(found)


def is_edge_or_crossed(lot, one, other, value):
    """Whether the value shows that both corners are an edge, or that they are crossed."""
    tips = corners_with_ends(lot, one, other)
    both = (one, other)
    others = [tip for at, tip in enumerate(tips) if at not in both]
    if is_told(value, "edge", 2):
        form = value[1]
        if not is_whole_row(form, len(tips[0])):
            return False
        told = product_of(form, tips[one])
        return product_of(form, tips[other]) == told and (not others or max(tells(form, others)) < told)
    if is_told(value, "crossed", 3):
        _, number, weights = value
        if not is_whole(number) or number < 1 or not are_weights(weights, len(tips)):
            return False
        if sum(weights) != 2 * number or sum(weights) == weights[one] + weights[other]:
            return False
        return mixture(weights, tips, len(tips[0])) == times(sum_of(tips[one], tips[other]), number)
    return False


def edges_alone(tips):
    """The ascending pairs of indices of corners that are edges, told pair by pair."""
    pairs = [(one, other) for other in range(len(tips)) for one in range(other)]
    middles = {}
    for one, other in pairs:
        middle = sum_of(tips[one], tips[other])
        middles[middle] = middles.get(middle, 0) + 1
    # Two pairs with one middle cross each other.
    alone = [(one, other) for one, other in sorted(pairs) if middles[sum_of(tips[one], tips[other])] == 1]
    return [(one, other) for one, other in alone if edge_told(tips, one, other)[0] == "form"]


def edges_of(tips):
    """The ascending pairs of indices of corners that are edges."""
    places = independent_places(tips)
    if len(places) > MOST_IN_SHELL:
        return edges_alone(tips)
    found, _ = frame_at(tips, places)
    return found


def edges(lot):
    """The ascending tuple of the pairs of indices of corners that are edges."""
    need_lot(lot)
    tips = corners_of(lot)
    if len(tips) > MOST_ENDS:
        raise TooMany(MOST_ENDS)
    return tuple(edges_of(tips))
