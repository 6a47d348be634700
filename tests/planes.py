"""Lots of the plane, reckoned by hand: ways round them, what lies within, and readings of one function."""

from math import gcd

from tests.helpers import dot, lot_of, minus, plus, random_lot, random_row

from rampworks.hull.sums import moved, summed


def cross(one, other):
    return one[0] * other[1] - one[1] * other[0]


def way_of(points):
    """The corners, from the least one on, with the inside on the left; by the sides of all other points."""
    points = lot_of(points)
    if len(points) == 1:
        return list(points)
    way, here = [], points[0]
    while True:
        way.append(here)
        there = None
        for point in points:
            if point == here:
                continue
            if there is None:
                there = point
                continue
            side = cross(minus(there, here), minus(point, here))
            lead, now = minus(point, here), minus(there, here)
            if side < 0 or side == 0 and dot(lead, now) > 0 and dot(lead, lead) > dot(now, now):
                there = point
        here = there
        if here == way[0]:
            return way


def steps_of(points):
    """How many times one goes along which primitive rows."""
    way, found = way_of(points), {}
    if len(way) == 1:
        return found
    for at, one in enumerate(way):
        lead = minus(way[(at + 1) % len(way)], one)
        size = gcd(*lead)
        found[(lead[0] // size, lead[1] // size)] = size
    return found


def lies_within(inner, outer):
    """Whether all points of the one lot lie in the hull of the other one."""
    way = way_of(outer)
    for point in inner:
        if len(way) == 1:
            if point != way[0]:
                return False
            continue
        for at, one in enumerate(way):
            other = way[(at + 1) % len(way)]
            side = cross(minus(other, one), minus(point, one))
            if side < 0 or len(way) == 2 and (side != 0 or dot(minus(point, one), minus(other, one)) < 0):
                return False
    return True


def plane_reading(source, many=7, size=4):
    return tuple(random_lot(source, source.randint(1, many), 2, size) for _ in range(2))


def same_functions(source, reading):
    """Other readings of the function: something added to both lots, moved, with points within put in."""
    found = []
    for _ in range(3):
        third = random_lot(source, source.randint(1, 4), 2, 3)
        row = random_row(source, 2, 9)
        found.append(tuple(moved(summed(lot, third), row) for lot in reading))
    middles = []
    for lot in reading:
        double = [(2 * x, 2 * y) for x, y in lot]
        middles.append(lot_of(double + [plus(lot[0], lot[-1]), plus(lot[0], lot[0])]))
    return found, tuple(middles)
