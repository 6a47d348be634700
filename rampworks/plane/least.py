"""Least readings of functions of two inputs: those that lie within each other reading."""

from math import gcd

from rampworks.base.checks import is_short, is_short_row, is_whole_row
from rampworks.base.linear import difference_of, product_of, sum_of
from rampworks.errors import InvalidOperation, TooMany
from rampworks.hull.corners import need_lot
from rampworks.hull.totals import moved_by
from rampworks.net.readings import need_reading
from rampworks.plane.fans import AXES, forms_behind, need_plane_reading, round_told
from rampworks.plane.turns import in_turn
from rampworks.plane.walks import (
    corners_walked, edge_steps, first_form, lot_walked, rest_of, total_of, walked, with_step)

MOST_EDGES = 400


def ascending(steps):
    """The dict with ascending keys."""
    return {row: steps[row] for row in sorted(steps)}


def need_plane_lot(lot):
    """Refuses what is no lot of points with two members."""
    need_lot(lot)
    if len(lot[0]) != 2:
        raise InvalidOperation("points have two members here")


def border(lot):
    """How many times one goes along which rows round the lot."""
    need_plane_lot(lot)
    return ascending(edge_steps(lot))


def is_border(value):
    """Whether the value is a border that can be passed."""
    if not isinstance(value, dict) or len(value) > MOST_EDGES:
        return False
    for row in value:
        if not is_short_row(row, 2, 2) or gcd(row[0], row[1]) != 1:
            return False
        if not is_short(value[row]) or value[row] < 1:
            return False
    return total_of(value) == (0, 0)


def lot_of(border):
    """The lot of corners with the border and the least point (0, 0)."""
    if not is_border(border):
        raise InvalidOperation("this is no border")
    return lot_walked(border)


def rest(reading):
    """How many times more one goes along which rows round the first lot than round the second one, or less."""
    need_plane_reading(reading)
    return ascending(rest_of(reading))


def row_between(one, other):
    """The row that the function of the other reading tells more, None if it does not differ by a form."""
    need_reading(one)
    need_reading(other)
    if len(one[0][0]) != 2 or len(other[0][0]) != 2:
        raise InvalidOperation("points have two members here")
    if rest_of(one) != rest_of(other):
        return None
    return difference_of(first_form(other), first_form(one))


def least_steps(reading):
    """The steps of both lots of the least reading, and by how much they are closed."""
    found = rest_of(reading)
    above = {row: found[row] for row in found if found[row] > 0}
    below = {row: -found[row] for row in found if found[row] < 0}
    lead = total_of(above)
    back = (-lead[0], -lead[1])
    return with_step(above, back), with_step(below, back), lead


def few_corners(steps):
    """Gives the steps back, but refuses those of a lot of too many corners."""
    if corners_walked(steps) > MOST_EDGES:
        raise TooMany(MOST_EDGES)
    return steps


def least_told(reading, above, below):
    """The least reading, by the steps of both lots."""
    high, low = lot_walked(above), lot_walked(below)
    # Just behind (1, 0) the function is the form of the last points.
    row = difference_of(first_form(reading), difference_of(high[-1], low[-1]))
    return moved_by(high, row), low


def least_reading(reading):
    """The one reading that, but for a move, lies within each other one, with the least point (0, 0) below."""
    need_plane_reading(reading)
    above, below, _ = least_steps(reading)
    return least_told(reading, few_corners(above), few_corners(below))


def is_least(reading):
    """Whether the reading lies, but for a move, within each other one of the function."""
    need_plane_reading(reading)
    others = edge_steps(reading[1])
    return len([row for row in edge_steps(reading[0]) if row in others]) <= 1


def common_steps(reading):
    """How many times one goes along which rows round both lots."""
    steps, others = edge_steps(reading[0]), edge_steps(reading[1])
    return {row: min(steps[row], others[row]) for row in steps if row in others}


def stick_in(steps, lead):
    """The lot of both ends of the lead, from where one begins to go along it; (0, 0) alone for the lead (0, 0)."""
    if lead == (0, 0):
        return ((0, 0),)
    size = gcd(lead[0], lead[1])
    begin = walked(steps)[(lead[0] // size, lead[1] // size)]
    return tuple(sorted([begin, sum_of(begin, lead)]))


def told_off(reading):
    """The least reading, the steps of what it lies within, the stick of this, and the row between them."""
    above, below, lead = least_steps(reading)
    least = least_told(reading, few_corners(above), few_corners(below))
    steps = with_step(common_steps(reading), lead)
    stick = stick_in(steps, lead)
    # Least points of sums are sums of least points.
    row = difference_of(sum_of(reading[0][0], stick[0]), least[0][0])
    return least, steps, stick, row


def taken_off(reading):
    """The lot, its stick and the row that show how the least reading lies within this one."""
    need_plane_reading(reading)
    _, steps, stick, row = told_off(reading)
    return lot_walked(few_corners(steps)), stick, row


def least_within(reading):
    """A row that puts the least reading into the reading."""
    need_plane_reading(reading)
    _, _, _, row = told_off(reading)
    return row


def is_hull_within(inner, outer):
    """Whether the hull of a lot lies within that of another one."""
    told = round_told((outer, inner))
    # What is told by one form between rays less than half a turn apart is nowhere below 0 if it is not so at them.
    rays = in_turn(sorted(set([ray for ray, _ in told[1]] + list(AXES))))
    return all([product_of(form, ray) >= 0 for form, ray in zip(forms_behind(told, rays), rays)])


def is_least_within(reading, value):
    """Whether the value is a row that puts the least reading into the reading."""
    need_plane_reading(reading)
    above, below, _ = least_steps(reading)
    least = least_told(reading, few_corners(above), few_corners(below))
    if not is_whole_row(value, 2):
        return False
    return all([is_hull_within(moved_by(inner, value), outer) for inner, outer in zip(least, reading)])
