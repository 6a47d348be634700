"""Lots and readings of which the last input is always 1: upper corners, and values at places, as fractions."""

from math import gcd

from rampworks.base.balance import form_or_weights, settled
from rampworks.base.checks import are_weights, is_short, is_short_row, is_told, is_whole, is_whole_row, need_index
from rampworks.base.linear import difference_of, mixture, product_of, sum_of, tells, times
from rampworks.errors import InvalidLot, InvalidNumber, InvalidOperation, InvalidReading, InvalidRow
from rampworks.hull.borders import border_of
from rampworks.hull.corners import corners_of, is_lot
from rampworks.hull.cuts import greatest_value
from rampworks.hull.matches import (
    are_plainly_alike, are_wide, form_at_corner, have_like_parts, leads_at, leaning, other_greatest, trial_rows,
    value_of_sum)
from rampworks.hull.sums import need_pairs
from rampworks.hull.totals import lots_cut, sum_cut, ways_of
from rampworks.net.networks import unit_row
from rampworks.net.readings import is_reading

LEAST_MEMBERS = 2
# More corners are looked at one by one.
MANY_TIPS = 20
# One in so many others can be beyond a point for a form that is worth a try.
FEW_BEYOND = 10


def need_lot_of_places(lot):
    """Refuses what is no lot of rows of two or more members."""
    if not is_lot(lot) or len(lot[0]) < LEAST_MEMBERS:
        raise InvalidLot("a lot has rows of two to eight members here")


def need_reading_of_places(reading):
    """Refuses what is no reading of such lots."""
    if not is_reading(reading) or len(reading[0][0]) < LEAST_MEMBERS:
        raise InvalidReading("a reading has rows of two to eight members here")


def lift_of(length):
    """The lot of the row that leads one down, and of zeros."""
    zeros = (0,) * (length - 1)
    return (*zeros, -1), (*zeros, 0)


def upper_of(tips):
    """The upper corners of ascending corners: those that are corners of the sum with the lift.

    The last member of a form for one of them is above 0, as else the point below would be greater.
    """
    if len(tips[0]) == 2:
        # Of two points over one number the last one is the upper one.
        tops = {point[0]: point for point in tips}
        return tuple(border_of([tops[x] for x in tops], -1))
    if len(tips) > MANY_TIPS:
        return upper_by_one(tips)
    known = {tip: True for tip in tips}
    return tuple([tip for tip in sum_cut(tips, lift_of(len(tips[0])), 2 * len(tips)) if tip in known])


def is_near(form, point, others):
    """Whether a form, if there is one (else None), tells more for the point than for all others but a few."""
    if form is None:
        return False
    own = product_of(form, point)
    return FEW_BEYOND * len([told for told in tells(form, others) if told >= own]) <= len(others)


def upper_by_one(points):
    """The upper corners of ascending corners, one by one; each form on the way can tell another one, too."""
    found, left, last = {}, list(points), None
    for point in points:
        if point not in found:
            others = [other for other in left if other != point]
            guess = last if is_near(last, point, others) else None
            table = settled(((point, others), upward(len(point))), (), None, guess)
            if table.price[-1] != 0:
                found[point] = True
                last = table.told_form()
            else:
                left = others
            for top, form in table.tops:
                if form[-1] < 0:
                    found[top] = True
    return tuple([point for point in points if point in found])


def upper_in_sum(pair):
    """The upper corners of the sum of two lots of corners alone."""
    one, other = pair
    if len(one[0]) == 2:
        return upper_of(sum_cut(one, other, len(one) * len(other)))
    known = {sum_of(x, y): True for x in one for y in other}
    tips = lots_cut((one, lift_of(len(one[0])), other), 2 * len(known))
    return tuple([tip for tip in tips if tip in known])


def upper(lot):
    """The ascending tuple of the upper corners."""
    need_lot_of_places(lot)
    return upper_of(corners_of(lot))


def need_lot_and_index(lot, index):
    """Refuses what are no such lot, and no index of a point."""
    need_lot_of_places(lot)
    need_index(index, len(lot))


def upward(length):
    """What keeps a form's last member above 0, as a group: a point, and the others."""
    return unit_row(length - 1, length), ((0,) * length,)


def upper_or_under(lot, index):
    """EITHER the point is an upper corner, with a form, OR it is under others, with weights."""
    need_lot_and_index(lot, index)
    point, others = lot[index], lot[:index] + lot[index + 1:]
    told = form_or_weights(((point, others), upward(len(point))), None)
    if told[0] == "form":
        return "upper", told[1]
    weights = told[1][:-1]
    weights.insert(index, 0)
    return "under", sum(weights), tuple(weights)


def is_under(lot, index, number, weights):
    """Whether the number times a point is under the sum of the others, each times its weight."""
    if not is_whole(number) or number < 1 or not are_weights(weights, len(lot)):
        return False
    if sum(weights) != number or weights[index] != 0:
        return False
    total, point = mixture(weights, lot, len(lot[0])), times(lot[index], number)
    return total[:-1] == point[:-1] and point[-1] <= total[-1]


def is_upper_or_under(lot, index, value):
    """Whether the value shows that the point is an upper corner, or that it is under others."""
    need_lot_and_index(lot, index)
    if is_told(value, "upper", 2):
        form, others = value[1], lot[:index] + lot[index + 1:]
        if not is_whole_row(form, len(lot[0])) or form[-1] <= 0:
            return False
        return not others or max(tells(form, others)) < product_of(form, lot[index])
    if is_told(value, "under", 3):
        return is_under(lot, index, value[1], value[2])
    return False


def value_at_place(reading, row, t):
    """The fraction, in lowest terms, that the reading tells at the row divided by t, with 1 behind it."""
    need_reading_of_places(reading)
    many = len(reading[0][0]) - 1
    if not is_short_row(row, many, many):
        raise InvalidRow("a row has an integer less than the points")
    if not is_short(t) or t < 1:
        raise InvalidNumber(t)
    top = greatest_value(reading[0], (*row, t)) - greatest_value(reading[1], (*row, t))
    size = gcd(top, t)
    return top // size, t // size


def need_crossed(one, other):
    """Both crossed sums of two readings, as pairs of cut lots."""
    need_reading_of_places(one)
    need_reading_of_places(other)
    if len(one[0][0]) != len(other[0][0]):
        raise InvalidOperation("readings of unlike lengths")
    above, below = corners_of(one[0]), corners_of(one[1])
    further, beneath = corners_of(other[0]), corners_of(other[1])
    need_pairs(above, beneath)
    need_pairs(below, further)
    return (above, beneath), (further, below)


def outward_rows(lots):
    """Rows with the last member above 0 that lead from the middle of each lot to each of its points."""
    found = []
    for lot in lots:
        many, total = len(lot), [sum(line) for line in zip(*lot)]
        for point in lot:
            row = [many * x - y for x, y in zip(point, total)]
            row[-1] = max(1, row[-1])
            found.append(tuple(row))
    return found


def tried_place(left, right):
    """A short row with the last member above 0 at which two sums are unlike, None if none was met."""
    rows = [row for row in trial_rows(len(left[0][0])) if row[-1] > 0]
    if len(rows[0]) > 2:
        rows.extend(outward_rows(left + right))
    for row in rows:
        if value_of_sum(left, row) != value_of_sum(right, row):
            return row
    return None


def have_parts(left, right):
    """Whether two sums are found to be alike without their corners, and so to agree at all places."""
    return are_wide(left, right) and have_like_parts(left, right)


def upper_lots(lots):
    """The upper corners of each of two lots: where the last member is above 0 no others have a say."""
    return upper_of(lots[0]), upper_of(lots[1])


def do_agree(left, right):
    """Whether two sums agree at all places."""
    if are_plainly_alike(left, right):
        return True
    if tried_place(left, right) is not None:
        return False
    return have_parts(left, right) or upper_in_sum(upper_lots(left)) == upper_in_sum(upper_lots(right))


def unlike_place(left, right):
    """A row with the last member above 0 at which two sums are unlike; None if there is none."""
    if are_plainly_alike(left, right):
        return None
    row = tried_place(left, right)
    if row is None and not have_parts(left, right):
        row = unlike_by_corners(upper_lots(left), upper_lots(right))
    return row


def unlike_by_corners(left, right):
    """The same, by the upper corners of both sums of lots of upper corners."""
    totals, others = upper_in_sum(left), upper_in_sum(right)
    if totals == others:
        return None
    for own, across, pair, beside in ((totals, others, left, right), (others, totals, right, left)):
        known = {total: True for total in across}
        for total in own:
            if total not in known:
                return place_at(total, pair, beside)
    return None


def place_at(total, pair, beside):
    """Such a row for an upper corner of the one sum that is none of the other one."""
    at, other = ways_of(pair[0], pair[1])[total]
    point, others = upward(len(total))
    lots, points = (*pair, (point, *others)), (pair[0][at], pair[1][other], point)
    form = form_at_corner(lots, points)
    if value_of_sum(beside, form) != product_of(form, total):
        return form
    # Here some other point is greatest of the other sum: it is greater where the form leans to it.
    lean = difference_of(other_greatest(total, beside, form), total)
    return sum_of(leaning(form, lean, leads_at(lots, points)), form)


def agree_or_place(one, other):
    """EITHER two readings agree at all places, OR a place at which they do not."""
    left, right = need_crossed(one, other)
    row = unlike_place(left, right)
    return ("agree",) if row is None else ("place", row[:-1], row[-1])


def is_agree_or_place(one, other, value):
    """Whether the value is right."""
    left, right = need_crossed(one, other)
    if is_told(value, "agree", 1):
        return do_agree(left, right)
    if is_told(value, "place", 3):
        _, row, t = value
        if not is_whole_row(row, len(one[0][0]) - 1) or not is_whole(t) or t < 1:
            return False
        return value_of_sum(left, (*row, t)) != value_of_sum(right, (*row, t))
    return False
