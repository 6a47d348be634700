"""Directions of the plane, in turn: from (1, 0) on, by (0, 1), (-1, 0), (0, -1)."""

from rampworks.base.lattices import bezout


def det(one, other):
    """Above 0 just if the other row comes behind the first one within less than half a turn."""
    return one[0] * other[1] - one[1] * other[0]


def quarter_of(row):
    """In which quarter of the turn a row other than (0, 0) lies, 0 to 3; each has its first direction."""
    x, y = row
    if x > 0 and y >= 0:
        return 0
    if y > 0:
        return 1
    return 2 if x < 0 else 3


def is_ahead(one, other):
    """Whether the one direction comes ahead of the other one in turn."""
    first, second = quarter_of(one), quarter_of(other)
    return first < second if first != second else det(one, other) > 0


def are_in_turn(rows):
    """Whether each of the directions comes ahead of the next one."""
    for one, other in zip(rows, rows[1:]):
        if not is_ahead(one, other):
            return False
    return True


def turn_key(row, size):
    """A pair that ascends as directions go on in turn; the size is at least the square of each member."""
    x, y = row
    quarter = quarter_of(row)
    if quarter % 2 == 1:
        x, y = y, -x
    # Slopes of two rows differ by 1 divided by a product of two members at least.
    return quarter, size * y // x


def in_turn(rows):
    """Rows with unlike directions, in turn."""
    greatest = max([abs(x) for row in rows for x in row], default=0)
    keyed = sorted([(turn_key(row, greatest * greatest), row) for row in rows])
    return [row for _, row in keyed]


def next_ray(ray, other):
    """The row with det 1 to the ray ahead from which the other one, with a greater det, is the least one on."""
    _, up, across = bezout(ray[0], ray[1])
    row = (-across, up)
    many = -(det(row, other) // det(ray, other))
    return row[0] + many * ray[0], row[1] + many * ray[1]


def rays_between(ray, other, most):
    """The rays that part two others, with a det above 0, so that all det are 1; None if they are more than `most`."""
    found, last = [], ray
    while det(last, other) > 1:
        if len(found) == most:
            return None
        last = next_ray(last, other)
        found.append(last)
    return found


def smoothed(rays, most):
    """Rays in turn with those between each two neighbours, none half a turn on; None if they are more than `most`."""
    found = []
    for ray, other in zip(rays, rays[1:] + rays[:1]):
        found.append(ray)
        between = rays_between(ray, other, max(0, most - len(found)))
        if between is None:
            return None
        found.extend(between)
    return None if len(found) > most else found
