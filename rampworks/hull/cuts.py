"""Corners of points, of sums and of joins, reckoned without bounds on integers."""

from rampworks.base.balance import form_or_weights
from rampworks.base.linear import difference_of, product_of, sum_of


def greatest_value(points, row):
    """The greatest number that the points tell for the row."""
    return max([product_of(point, row) for point in points])


def greatest_points(points, row):
    """The tuple of the points that tell it, in their sequence."""
    told = [product_of(point, row) for point in points]
    greatest = max(told)
    return tuple([point for point, x in zip(points, told) if x == greatest])


def cut(points, most):
    """The ascending tuple of the corners of ascending points; if there are more than `most`, more than these."""
    length = len(points[0])
    if length == 1:
        return points if len(points) <= 2 else (points[0], points[-1])
    if length == 2:
        return plane_cut(points)
    left, found = list(points), []
    for point in points:
        columns = [difference_of(point, other) for other in left if other != point]
        if form_or_weights(columns, None, length)[0] == "form":
            found.append(point)
            if len(found) > most:
                break
        else:
            left = [other for other in left if other != point]
    return tuple(found)


def plane_cut(points):
    """The corners of ascending points of two members: both borders from the first point to the last one."""
    if len(points) <= 2:
        return points
    lower, upper = border_of(points, 1), border_of(points, -1)
    return tuple(sorted(lower + upper[1:-1]))


def border_of(points, side):
    """The corners on the one side (1: below, -1: above), both ends among them."""
    found = []
    for point in points:
        while len(found) > 1 and side * bend_of(found[-2], found[-1], point) <= 0:
            found.pop()
        found.append(point)
    return found


def bend_of(one, middle, other):
    """Above 0 if the way over three points turns to the left, 0 if it goes straight on."""
    (a, b), (c, d) = difference_of(middle, one), difference_of(other, middle)
    return a * d - b * c


def ways_of(one, other):
    """The sums of a point of each lot, ascending, each with the one way to it, None if there are several."""
    found = {}
    for left in one:
        for right in other:
            total = sum_of(left, right)
            found[total] = None if total in found else (left, right)
    return {total: found[total] for total in sorted(found)}


def leads_of(lot):
    """For each point the differences of it to all other ones."""
    return {point: [difference_of(point, other) for other in lot if other != point] for point in lot}


def sum_cut(one, other, most):
    """The corners of the sum of two cut lots; if there are more than `most`, more than these."""
    if len(one[0]) <= 2:
        return cut(tuple(ways_of(one, other)), most)
    if len(one) == 1:
        return moved_by(other, one[0])
    if len(other) == 1:
        return moved_by(one, other[0])
    ways, leads, further = ways_of(one, other), leads_of(one), leads_of(other)
    found = []
    for total in ways:
        if is_sum_corner(ways[total], leads, further):
            found.append(total)
            if len(found) > most:
                break
    return tuple(found)


def is_sum_corner(way, leads, further):
    """Whether the sum with this one way is a corner: one form is greatest at both points."""
    if way is None:
        return False
    left, right = way
    return form_or_weights(leads[left] + further[right], None, len(left))[0] == "form"


def join_cut(one, other, most):
    """The corners of the points of both; if there are more than `most`, more than these."""
    return cut(tuple(sorted(set(one + other))), most)


def moved_by(lot, row):
    """Each point and the row."""
    return tuple([sum_of(point, row) for point in lot])


def are_sums_alike(one, other, third, fourth):
    """Whether the sum of the first two cut lots and that of the last two have the same corners."""
    # What is on both sides can be taken off.
    for left, beside in ((one, other), (other, one)):
        if left == third:
            return beside == fourth
        if left == fourth:
            return beside == third
    ways, across = ways_of(one, other), ways_of(third, fourth)
    return has_corners_in(one, other, ways, across) and has_corners_in(third, fourth, across, ways)


def has_corners_in(one, other, ways, across):
    """Whether all corners of the sum of two lots, told by its ways, are among the points across."""
    leads, further = leads_of(one), leads_of(other)
    for total in ways:
        if total not in across and is_sum_corner(ways[total], leads, further):
            return False
    return True
