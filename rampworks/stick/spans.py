"""Lots seen along a row: their shadows in one member less, and how long what lies over these is along the row.

The row is primitive, and its first member that is not 0 is above 0.
"""

from rampworks.base.checks import is_whole_row
from rampworks.base.linear import content_of, head_place, product_of
from rampworks.hull.cuts import cut


def is_heading(value, length):
    """Whether the value is such a row of this length."""
    if not is_whole_row(value, length) or content_of(value) != 1:
        return False
    return value[head_place(value)] > 0


def seen_along(points, row):
    """What each of the points is in the shadow along the row."""
    at = head_place(row)
    head, places = row[at], [k for k in range(len(row)) if k != at]
    return [tuple([head * point[k] - row[k] * point[at] for k in places]) for point in points]


def form_along(form, row):
    """The form, 0 along the row, that tells for points what the form tells for their shadows."""
    at = head_place(row)
    found = [row[at] * x for x in form]
    found.insert(at, -product_of(form, row[:at] + row[at + 1:]))
    size = max(1, content_of(found))
    return tuple([x // size for x in found])


def fibers_along(points, row):
    """For each row of the shadow along a row the indices of the points over it, ascending."""
    found = {}
    for index, shade in enumerate(seen_along(points, row)):
        found.setdefault(shade, []).append(index)
    return found


def shade_corners(fibers):
    """The corners of a shadow."""
    shades = tuple(sorted(fibers))
    return shades if len(shades[0]) == 0 else cut(shades, len(shades))


def length_between(one, other, row):
    """How many times the row leads from the one point to the other one; None if it does not."""
    at = head_place(row)
    many = (other[at] - one[at]) // row[at]
    return many if all([x + many * y == z for x, y, z in zip(one, row, other)]) else None


def edges_along(tips, edges):
    """For each row along which the corners have edges the pairs of indices of these."""
    found = {}
    for one, other in edges:
        lead = [x - y for x, y in zip(tips[other], tips[one])]
        size = content_of(lead)
        found.setdefault(tuple([x // size for x in lead]), []).append((one, other))
    return found


def has_single(tips, row, many, dimension):
    """Whether one corner alone lies over some corner of the shadow along the row, along which there are many edges."""
    # A shadow has more corners than dimensions.
    return many < dimension or many < len(shade_corners(fibers_along(tips, row)))
