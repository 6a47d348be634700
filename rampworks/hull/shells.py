"""Shells: the hulls of points of three or four members, as simplices of indices with outward planes.

A plane is a row: a form, and behind it a number; the form and the number, times a point with a 1 behind it, tell on
which side of the plane the point lies, and how great the determinant of the simplex is that it makes with the points
of the plane.
"""

from rampworks.base.linear import content_of, difference_of, product_of, stepped, tells


def plane_of(points):
    """The plane of as many points as they have members, at most four; zeros if they do not make one."""
    first = points[0]
    if len(points) == 1:
        form = (1,)
    elif len(points) == 2:
        (a, b), (c, d) = points
        form = (d - b, a - c)
    elif len(points) == 3:
        form = cross_of(difference_of(points[1], first), difference_of(points[2], first))
    else:
        form = wide_cross_of([difference_of(point, first) for point in points[1:]])
    return (*form, -product_of(form, first))


def cross_of(one, other):
    """The form of three members that is 0 at both rows."""
    (a, b, c), (d, e, f) = one, other
    return b * f - c * e, c * d - a * f, a * e - b * d


def wide_cross_of(rows):
    """The form of four members that is 0 at three rows."""
    (a, b, c, d), (e, f, g, h), (k, m, n, p) = rows
    # The six determinants of two columns of the first two rows.
    ab, ac, ad, bc, bd, cd = a * f - b * e, a * g - c * e, a * h - d * e, b * g - c * f, b * h - d * f, c * h - d * g
    return bc * p - bd * n + cd * m, -ac * p + ad * n - cd * k, ab * p - ad * m + bd * k, -ab * n + ac * m - bc * k


def turned_over(plane):
    """The same plane with its other side above 0."""
    return tuple([-x for x in plane])


class Shell:
    """The hull of points that are put to it one by one.

    `facets` tells the plane of each simplex on its rim; `simplices` part it, and their vols make up its `size`.
    """

    def __init__(self, points):
        self.points = list(points)
        self.facets = {}
        indices = tuple(range(len(self.points)))
        self.simplices = [indices]
        self.size = 0
        for at in indices:
            facet = indices[:at] + indices[at + 1:]
            plane = plane_of([self.points[k] for k in facet])
            side = product_of(plane, (*self.points[at], 1))
            if side > 0:
                plane = turned_over(plane)
                facet = (facet[1], facet[0], *facet[2:])
            self.size = abs(side)
            self.facets[facet] = plane

    def put(self, point):
        """Puts a point to the hull; gives the facets with it, none if it is no point beyond the hull."""
        sides = tells((*point, 1), list(self.facets.values()))
        facing = [(facet, side) for facet, side in zip(list(self.facets), sides) if side > 0]
        if not facing:
            return []
        index, ridges, fresh = len(self.points), {}, []
        for facet, side in facing:
            self.size += side
            self.simplices.append((*facet, index))
            del self.facets[facet]
            for at in range(len(facet)):
                ridge = tuple(sorted(facet[:at] + facet[at + 1:]))
                if ridge in ridges:
                    del ridges[ridge]
                else:
                    ridges[ridge] = (facet, at)
        self.points.append(point)
        for facet, at in list(ridges.values()):
            # The new point in the place of one that it is beyond keeps the outside outside.
            grown = (*facet[:at], index, *facet[at + 1:])
            self.facets[grown] = plane_of([self.points[k] for k in grown])
            fresh.append(grown)
        return fresh


def first_independent(points):
    """Indices of the first points that do not lie on a plane with those ahead of them; as many as there can be."""
    first, heads, found = points[0], [], [0]
    for index in range(1, len(points)):
        lead = difference_of(points[index], first)
        for column, head in heads:
            if lead[column] != 0:
                lead = stepped(lead, head, column, 1)
        column = 0
        while column < len(first) and lead[column] == 0:
            column += 1
        if column < len(first):
            heads.append((column, lead))
            found.append(index)
            if len(found) > len(first):
                break
    return found


def shell_of(points):
    """The shell of points of three or four members, None if they lie on one plane."""
    start = first_independent(points)
    if len(start) <= len(points[0]):
        return None
    shell = Shell([points[index] for index in start])
    for index, point in enumerate(points):
        if index not in start:
            shell.put(point)
    return shell


def faces_of(shell, tips):
    """For each of the corners that a shell is made of its facets: sums of 2 ** index of their corners."""
    places = {tip: at for at, tip in enumerate(tips)}
    labels = [places[point] for point in shell.points]
    masks = {}
    for facet in shell.facets:
        plane = shell.facets[facet]
        size = content_of(plane)
        plane = tuple([x // size for x in plane])
        mask = masks.get(plane, 0)
        for index in facet:
            mask |= 1 << labels[index]
        masks[plane] = mask
    found = [[] for tip in tips]
    for mask in list(masks.values()):
        for at in range(len(tips)):
            if mask >> at & 1:
                found[at].append(mask)
    return found


def edges_between(faces):
    """The ascending pairs of indices of corners that are all of the corners that some facets have in common."""
    found = []
    for one in range(len(faces)):
        for other in range(one + 1, len(faces)):
            both = 1 << one | 1 << other
            common = 0
            for mask in faces[one]:
                if mask >> other & 1:
                    common = mask if common == 0 else common & mask
                    if common == both:
                        found.append((one, other))
                        break
    return found
