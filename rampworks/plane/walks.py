"""Walks round lots of rows of two: dicts from primitive rows to how many times one goes along them.

One has the inside on the left, and begins at the least point.
"""

from math import gcd

from rampworks.base.linear import difference_of
from rampworks.hull.borders import way_round
from rampworks.plane.turns import in_turn


def edge_steps(points):
    """How many times one goes along which rows round the hull of ascending points."""
    way, found = way_round(points), {}
    if len(way) > 1:
        for one, other in zip(way, way[1:] + way[:1]):
            x, y = difference_of(other, one)
            size = gcd(x, y)
            found[(x // size, y // size)] = size
    return found


def rest_of(reading):
    """How many times more one goes along which rows round the first lot than round the second one, or less."""
    found = edge_steps(reading[0])
    others = edge_steps(reading[1])
    for row in others:
        found[row] = found.get(row, 0) - others[row]
    return {row: found[row] for row in found if found[row] != 0}


def first_form(reading):
    """The form of the function of a reading just behind (1, 0)."""
    return difference_of(reading[0][-1], reading[1][-1])


def total_of(steps):
    """Where one comes to from (0, 0)."""
    return sum([row[0] * steps[row] for row in steps]), sum([row[1] * steps[row] for row in steps])


def with_step(steps, lead):
    """The steps and those that make the lead, if this is not (0, 0)."""
    found = {row: steps[row] for row in steps}
    size = gcd(lead[0], lead[1])
    if size != 0:
        row = (lead[0] // size, lead[1] // size)
        found[row] = found.get(row, 0) + size
    return found


def walked(steps):
    """For each row, in the sequence of a walk from (0, 0), the least point, where one begins to go along it."""
    # Seen a quarter further on the first rows to take come behind (1, 0), and this row comes last.
    turned = in_turn([(-y, x) for x, y in steps])
    if turned and turned[0] == (1, 0):
        turned = turned[1:] + turned[:1]
    found, x, y = {}, 0, 0
    for a, b in turned:
        row = (b, -a)
        found[row] = (x, y)
        x, y = x + steps[row] * b, y - steps[row] * a
    return found


def lot_walked(steps):
    """The lot of corners round which one goes so, with the least point (0, 0)."""
    begins = walked(steps)
    return tuple(sorted([begins[row] for row in begins])) if begins else ((0, 0),)


def corners_walked(steps):
    """How many corners this lot has."""
    return max(1, len(steps))
