"""Covers: for each point of two lots the points of the other lot between which it lies."""

from rampworks.base.linear import sum_of
from rampworks.hull.corners import inside_told, is_mean
from rampworks.hull.cuts import cut


def sums_of(one, other):
    """The ascending tuple of all sums of a point of each lot."""
    return tuple(sorted(set([sum_of(x, y) for x in one for y in other])))


def pair_for(point, lot, tips):
    """The pair (number, weights) that makes a point of the points of a lot with these corners."""
    if point in lot:
        return 1, tuple([1 if other == point else 0 for other in lot])
    _, number, weights = inside_told(tips, point)
    shares = {tip: weight for tip, weight in zip(tips, weights)}
    return number, tuple([shares.get(other, 0) for other in lot])


def half_cover(lot, other):
    """The pairs for all points of a lot that lies in the hull of the other one."""
    tips = cut(other, len(other))
    return tuple([pair_for(point, other, tips) for point in lot])


def cover_of(lot, other):
    """The cover of two lots that are alike."""
    return half_cover(lot, other), half_cover(other, lot)


def is_half_cover(lot, other, value):
    """Whether the value is a tuple of a pair for each point of the lot that makes it of the other one's points."""
    if not isinstance(value, tuple) or len(value) != len(lot):
        return False
    for point, pair in zip(lot, value):
        if not isinstance(pair, tuple) or len(pair) != 2 or not is_mean(other, point, pair[0], pair[1]):
            return False
    return True


def is_cover(lot, other, value):
    """Whether the value is a cover of both lots."""
    if not isinstance(value, tuple) or len(value) != 2:
        return False
    return is_half_cover(lot, other, value[0]) and is_half_cover(other, lot, value[1])
