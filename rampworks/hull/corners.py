"""Lots: their values, their corners, what is inside, and which lots are alike."""

from rampworks.base.balance import form_or_weights
from rampworks.base.checks import (
    are_ascending, are_short_rows, are_weights, is_short_row, is_told, is_whole, is_whole_row, need_index)
from rampworks.base.linear import mixture, product_of, tells, times
from rampworks.errors import InvalidLot, InvalidOperation, InvalidRow
from rampworks.hull.cuts import cut, greatest_points, greatest_value

MOST_POINTS = 400
MOST_MEMBERS = 8


def is_lot(value):
    """Whether the value is an ascending tuple of 1 to 400 rows of one length, 1 to 8."""
    return are_short_rows(value, MOST_POINTS, MOST_MEMBERS) and are_ascending(value)


def need_lot(lot):
    """Refuses what is no lot."""
    if not is_lot(lot):
        raise InvalidLot("a lot is an ascending tuple of 1 to 400 rows of one length")


def need_point_row(row):
    """Refuses what is no row of 1 to 8 integers."""
    if not is_short_row(row, 1, MOST_MEMBERS):
        raise InvalidRow("a row is a tuple of 1 to 8 integers")


def need_same_length(lot, row):
    """Refuses a lot and a row of unlike lengths."""
    if len(lot[0]) != len(row):
        raise InvalidOperation("unlike lengths")


def need_lot_and_row(lot, row):
    """Refuses what are no lot and no row of its length."""
    need_lot(lot)
    need_point_row(row)
    need_same_length(lot, row)


def need_lots(one, other):
    """Refuses what are no lots of one length."""
    need_lot(one)
    need_lot(other)
    need_same_length(one, other[0])


def corners_of(lot):
    """The corners of a lot, which are at most as many as its points."""
    return cut(lot, MOST_POINTS)


def value_at(lot, row):
    """The value of the lot at the row."""
    need_lot_and_row(lot, row)
    return greatest_value(lot, row)


def greatest_at(lot, row):
    """The ascending tuple of the points that have the value at the row."""
    need_lot_and_row(lot, row)
    return greatest_points(lot, row)


def corners(lot):
    """The ascending tuple of the corners."""
    need_lot(lot)
    return corners_of(lot)


def corner_or_weights(lot, index):
    """EITHER a form that is greater at the point than at all others, OR weights of the others that make it."""
    need_lot(lot)
    need_index(index, len(lot))
    point, others = lot[index], lot[:index] + lot[index + 1:]
    told = form_or_weights(((point, others),), None)
    if told[0] == "form":
        return "corner", told[1]
    weights = told[1]
    return "weights", sum(weights), tuple([*weights[:index], 0, *weights[index:]])


def is_above_all(form, point, others):
    """Whether the value is a form that is greater at the point than at all others."""
    if not is_whole_row(form, len(point)):
        return False
    return not others or max(tells(form, others)) < product_of(form, point)


def is_mean(lot, row, number, weights):
    """Whether the number, from 1 on, times the row is the sum of the points by weights that add up to it."""
    if not is_whole(number) or number < 1 or not are_weights(weights, len(lot)):
        return False
    return sum(weights) == number and mixture(weights, lot, len(row)) == times(row, number)


def is_corner_or_weights(lot, index, value):
    """Whether the value shows that the point is a corner, or that it is none."""
    need_lot(lot)
    need_index(index, len(lot))
    if is_told(value, "corner", 2):
        return is_above_all(value[1], lot[index], lot[:index] + lot[index + 1:])
    if is_told(value, "weights", 3):
        _, number, weights = value
        return is_mean(lot, lot[index], number, weights) and weights[index] == 0
    return False


def inside_told(lot, row):
    """EITHER weights that make the row of the points, OR a form that is greater at it than at all of them."""
    if row in lot:
        return "inside", 1, tuple([1 if point == row else 0 for point in lot])
    told = form_or_weights(((row, lot),), None)
    if told[0] == "form":
        return "beyond", told[1]
    return "inside", sum(told[1]), tuple(told[1])


def inside_or_beyond(lot, row):
    """EITHER the row is in the hull, with weights, OR it is beyond, with a form."""
    need_lot_and_row(lot, row)
    return inside_told(lot, row)


def is_inside_or_beyond(lot, row, value):
    """Whether the value shows that the row is in the hull, or that it is beyond."""
    need_lot_and_row(lot, row)
    if is_told(value, "inside", 3):
        return is_mean(lot, row, value[1], value[2])
    if is_told(value, "beyond", 2):
        return is_above_all(value[1], row, lot)
    return False


def parting_row(one, other):
    """A form that goes beyond one of two cut lots at a corner of the other one, None if there is none."""
    for lot, beside in ((one, other), (other, one)):
        for point in lot:
            if point not in beside:
                told = inside_told(beside, point)
                if told[0] == "beyond":
                    return told[1]
    return None


def alike_or_row(one, other):
    """EITHER both lots are alike, OR a row at which their values are unlike."""
    need_lots(one, other)
    row = parting_row(corners_of(one), corners_of(other))
    return ("alike",) if row is None else ("row", row)


def is_alike_or_row(one, other, value):
    """Whether the value is right."""
    need_lots(one, other)
    if is_told(value, "alike", 1):
        return corners_of(one) == corners_of(other)
    if is_told(value, "row", 2) and is_whole_row(value[1], len(one[0])):
        return greatest_value(one, value[1]) != greatest_value(other, value[1])
    return False
