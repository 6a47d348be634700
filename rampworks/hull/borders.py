"""Borders of points of two members: their corners, in the sequence of a way round them, and sums of borders."""

from rampworks.base.linear import difference_of, sum_of


def bend_of(one, middle, other):
    """Above 0 if the way over three points turns to the left, 0 if it goes straight on."""
    return (middle[0] - one[0]) * (other[1] - middle[1]) - (middle[1] - one[1]) * (other[0] - middle[0])


def border_of(points, side):
    """The corners of ascending points on the one side (1: below, -1: above), both ends among them."""
    found = []
    for point in points:
        while len(found) > 1 and side * bend_of(found[-2], found[-1], point) <= 0:
            found.pop()
        found.append(point)
    return found


def way_round(points):
    """The corners of ascending points, from the least one on, with the inside on the left."""
    if len(points) <= 2:
        return list(points)
    return border_of(points, 1) + border_of(points, -1)[-2:0:-1]


def plane_cut(points):
    """The corners of ascending points."""
    return points if len(points) <= 2 else tuple(sorted(way_round(points)))


def chain_sum(one, other, side):
    """The border on one side of the sum of two lots with these borders on this side."""
    at, beside, point = 0, 0, sum_of(one[0], other[0])
    found = [point]
    while at < len(one) - 1 or beside < len(other) - 1:
        if beside == len(other) - 1:
            turn = 1
        elif at == len(one) - 1:
            turn = -1
        else:
            (a, b), (c, d) = one[at], one[at + 1]
            (e, f), (g, h) = other[beside], other[beside + 1]
            turn = side * ((c - a) * (h - f) - (d - b) * (g - e))
        if turn >= 0:
            point = sum_of(point, difference_of(one[at + 1], one[at]))
            at += 1
        if turn <= 0:
            point = sum_of(point, difference_of(other[beside + 1], other[beside]))
            beside += 1
        found.append(point)
    return found


def plane_sum(one, other):
    """The corners of the sum of two lots of corners alone."""
    lower = chain_sum(border_of(one, 1), border_of(other, 1), 1)
    upper = chain_sum(border_of(one, -1), border_of(other, -1), -1)
    return tuple(sorted(lower + upper[1:-1]))
