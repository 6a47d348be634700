"""By how much functions of one and two inputs bend: told by the borders of the lots of their readings."""

from math import gcd

from rampworks.hull.borders import border_of, leads_along


def flat_leads(points):
    """What leads along the lower and along the upper border of ascending points of two members."""
    if len(points) == 1:
        return [], []
    return leads_along(border_of(points, 1), 1), leads_along(border_of(points, -1), 1)


def lengths_told(leads, others):
    """For each row with leads of the one lot, or of the other one, how much longer the former are."""
    found = {}
    for sign, lot in ((1, leads), (-1, others)):
        for dx, dy in lot:
            size = gcd(dx, dy)
            row = (dx // size, dy // size)
            found[row] = found.get(row, 0) + sign * size
    return found


def line_bends(reading):
    """The triple of a function of one input, if it bends."""
    above, below = reading
    many = above[-1][0] - above[0][0] - below[-1][0] + below[0][0]
    return () if many == 0 else (((1,), many, many),)


def plane_bends(lower, upper):
    """The triples of a function of two inputs, of whose lots the lengths along both borders are told."""
    found = []
    for row in sorted(set(list(lower) + list(upper))):
        one, other = lower.get(row, 0), upper.get(row, 0)
        if one != 0 or other != 0:
            found.append((row, min(one, other), max(one, other)))
    return tuple(found)


def plane_places(row):
    """The two places of a row of two members."""
    x, y = row
    ends = ((row, (y, -x)), (row, (-y, x)))
    return ends if x > 0 else (ends[1], ends[0])
