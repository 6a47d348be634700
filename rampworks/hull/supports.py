"""Corners of sums of lots of three or four members, told by forms: each face of a shell is tried till none is left.

What comes out are guides: dicts with ascending keys, from each corner to a form that is greater at it than at all
other points.
"""

from rampworks.base.lattices import kernel_of
from rampworks.base.linear import difference_of, eliminated, product_of, sum_of, tells
from rampworks.hull.shells import Shell


def plain_ends(points):
    """For each place the index of the last one of the greatest points there, and of the first one of the least.

    These are corners of ascending points, and such ones at one place of several lots make a corner of their sum.
    """
    found = []
    indices = range(len(points))
    for line in zip(*points):
        _, last = max(zip(line, indices))
        _, first = min(zip(line, indices))
        found.append(last)
        found.append(first)
    return found


def unit_forms(length):
    """The forms that tell one member, or its opposite."""
    return [tuple([x if k == at else 0 for k in range(length)]) for at in range(length) for x in (1, -1)]


def support(form, parts):
    """How much the form tells at most for the sum of the parts, and the least one of the corners for which it does."""
    total, chosen = 0, []
    for part in parts:
        told = tells(form, part)
        greatest = max(told)
        total += greatest
        chosen.append(part[told.index(greatest)])
    return total, tuple([sum(line) for line in zip(*chosen)])


def first_simplex(parts, tips, length):
    """Corners of the sum, one more than members, that do not lie on one plane; None if all lie on one."""
    start, leads = [tips[0]], []
    for tip in tips[1:]:
        lead = difference_of(tip, start[0])
        if len(leads) < length and len(eliminated(leads + [lead])[0]) > len(leads):
            start.append(tip)
            leads.append(lead)
    while len(leads) < length:
        form = kernel_of(leads, length)[0]
        level = product_of(form, start[0])
        _, tip = support(form, parts)
        if product_of(form, tip) == level:
            _, tip = support([-x for x in form], parts)
            if product_of(form, tip) == level:
                return None
        start.append(tip)
        leads.append(difference_of(tip, start[0]))
    return start


def tips_of(parts, hints, most):
    """Corners of the sum that are told by some forms."""
    tips = {}
    for hint in unit_forms(len(parts[0][0])) + hints:
        tips[support(hint, parts)[1]] = True
        if len(tips) > most:
            break
    return list(tips)


def shell_in_sum(parts, hints, most):
    """The shell of the sum of lots; not all of it if there are more than `most` corners; None if all lie on a plane.

    The hints are forms that are tried first.
    """
    tips = tips_of(parts, hints, most)
    start = first_simplex(parts, tips, len(parts[0][0]))
    if start is None:
        return None
    shell = Shell(start)
    for tip in tips:
        shell.put(tip)
    left = list(shell.facets)
    while left and len(shell.points) <= most:
        facet = left.pop()
        if facet in shell.facets:
            plane = shell.facets[facet]
            total, tip = support(plane[:-1], parts)
            if total > -plane[-1]:
                left.extend(shell.put(tip))
    return shell


def shell_sum(parts, hints, most):
    """The corners of the sum of lots, with guides; more than `most` if there are more; None if all lie on a plane."""
    shell = shell_in_sum(parts, hints, most)
    if shell is None:
        return None
    if len(shell.points) > most:
        return {tip: None for tip in shell.points}
    return guides_of(shell)


def guides_of(shell):
    """The guides of the points of a shell: sums of the forms of the planes at each of them."""
    forms = {}
    for facet in shell.facets:
        form = shell.facets[facet][:-1]
        for index in facet:
            point = shell.points[index]
            forms[point] = sum_of(forms[point], form) if point in forms else form
    return {point: forms[point] for point in sorted(forms)}
