"""Borders of points of two members: their corners, in the sequence of a way round them, and sums of borders."""


def border_of(points, side):
    """The corners of ascending points on the one side (1: below, -1: above), both ends among them."""
    found = []
    for point in points:
        x, y = point
        while len(found) > 1:
            (a, b), (c, d) = found[-2], found[-1]
            # Whether the way over three points turns to the side.
            if side * ((c - a) * (y - d) - (d - b) * (x - c)) > 0:
                break
            found.pop()
        found.append(point)
    return found


def way_round(points):
    """The corners of ascending points, from the least one on, with the inside on the left."""
    if len(points) <= 2:
        return list(points)
    return border_of(points, 1) + border_of(points, -1)[-2:0:-1]


def plane_cut(points):
    """The corners of ascending points."""
    return points if len(points) <= 2 else tuple(sorted(way_round(points)))


def sides_of(points):
    """The borders of ascending corners below and above the line from the first one to the last one."""
    (a, b), (c, d) = points[0], points[-1]
    dx, dy = c - a, d - b
    lower, upper = [points[0]], [points[0]]
    for point in points[1:-1]:
        side = lower if dx * (point[1] - b) < dy * (point[0] - a) else upper
        side.append(point)
    lower.append(points[-1])
    upper.append(points[-1])
    return lower, upper


def leads_along(border, number):
    """What leads from each point of a border to the next one, so many times."""
    return [(number * (c - a), number * (d - b)) for (a, b), (c, d) in zip(border, border[1:])]


def leads_in(parts):
    """The leads along the lower and along the upper borders of lots, each so many times."""
    lower, upper = [], []
    for number, points in parts:
        if len(points) == 2:
            (a, b), (c, d) = points
            lead = (number * (c - a), number * (d - b))
            lower.append(lead)
            upper.append(lead)
        elif len(points) > 2:
            below, above = sides_of(points)
            lower.extend(leads_along(below, number))
            upper.extend(leads_along(above, number))
    return lower, upper


def merged(leads):
    """Leads to the right, those of one slope as one, with ascending slopes, the one straight up last."""
    found, up = {}, 0
    size = max(leads)[0] ** 2
    for lead in leads:
        dx, dy = lead
        if dx == 0:
            up += dy
        else:
            # Unlike slopes differ by 1 divided by a product of two widths at least.
            key = dy * size // dx
            if key in found:
                lead = (dx + found[key][0], dy + found[key][1])
            found[key] = lead
    steps = [found[key] for key in sorted(found)]
    if up > 0:
        steps.append((0, up))
    return steps


def walked(point, steps):
    """The points that the steps lead to, one behind the other."""
    x, y = point
    found = []
    for dx, dy in steps:
        x += dx
        y += dy
        found.append((x, y))
    return found


def plane_total(parts):
    """The corners of the sum of lots of corners alone, each so many times from 1 on: pairs of number and lot."""
    first = (sum([number * points[0][0] for number, points in parts]),
             sum([number * points[0][1] for number, points in parts]))
    lower, upper = leads_in(parts)
    if not lower:
        return (first,)
    found = walked(first, merged(lower))
    # Both borders end in one point.
    return tuple(sorted([first] + found + walked(first, merged(upper)[:0:-1])))


def plane_sum(one, other):
    """The corners of the sum of two lots of corners alone."""
    return plane_total(((1, one), (1, other)))
