"""Corners of points and of joins, reckoned without bounds on integers.

Lots go about here with guides: dicts with ascending keys, from each corner to a form that is greater at it than at
all other points, or None where none is known. A form that is known certifies corners of joins and sums in no time.
"""

from rampworks.base.balance import settled
from rampworks.base.linear import content_of, difference_of, head_place, tells, times
from rampworks.hull.borders import plane_cut
from rampworks.hull.sheets import Sheet
from rampworks.hull.supports import plain_ends, shell_sum

# So many points are looked at in one table; more of them one by one.
MOST_IN_SHEET = 14
# Sums and differences of two members are tried as forms for so many members at most; for more they are too many.
MOST_PAIRED = 5
# From so many members on most corners are greatest for the form that leads to them from the middle.
MANY_MEMBERS = 4


def greatest_value(points, row):
    """The greatest number that the points tell for the row."""
    return max(tells(row, points))


def greatest_points(points, row):
    """The tuple of the points that tell it, in their sequence."""
    told = tells(row, points)
    greatest = max(told)
    return tuple([point for point, x in zip(points, told) if x == greatest])


def cut(points, most):
    """The ascending tuple of the corners of ascending points; if there are more than `most`, more than these."""
    length = len(points[0])
    if len(points) <= 2:
        return points
    if length == 1:
        return points[0], points[-1]
    if length == 2:
        return plane_cut(points)
    return tuple(guided_cut(points, {}, most, False, {}))


def guided_cut(points, known, most, wants_forms, guesses):
    """The corners, of which some are known, with guides; more than `most` if there are more."""
    if len(points) <= 2 or len(points[0]) <= 2:
        return {point: known.get(point) for point in cut(points, most)}
    if len(points) <= MOST_IN_SHEET:
        return sheet_cut(points, known, wants_forms)
    places = independent_places(points)
    if len(places) == 3 and len(points[0]) == 3:
        return shell_sum((points,), [form for form in known.values() if form is not None], most)
    if len(places) == len(points[0]):
        return single_cut(points, known, most, guesses)
    shadows = {tuple([point[at] for at in places]): point for point in points}
    tips = guided_cut(tuple(sorted(shadows)), {}, most, False, {})
    return {point: known.get(point) for point in sorted([shadows[tip] for tip in tips])}


def put_outward(points, found):
    """Puts corners to those found: what the forms from the middle of all points to each other one tell."""
    many = len(points)
    total = [sum(line) for line in zip(*points)]
    for point in points:
        if point not in found:
            form = tuple([many * x - y for x, y in zip(point, total)])
            told = tells(form, points)
            greatest = max(told)
            if told.count(greatest) == 1:
                found[points[told.index(greatest)]] = form


def sheet_cut(points, known, wants_forms):
    """The corners, told by one table for all points that are not known, or told by plain forms."""
    sheet, found = None, {point: known[point] for point in known}
    if not wants_forms:
        for at in plain_ends(points):
            found.setdefault(points[at], None)
    if len(points[0]) >= MANY_MEMBERS:
        put_outward(points, found)
    for label, point in enumerate(points):
        if point not in found:
            sheet = Sheet((points,), None, wants_forms) if sheet is None else sheet
            if sheet.is_corner(label):
                found[point] = tuple(sheet.form) if wants_forms else None
            else:
                sheet.leave(label)
    return {point: found[point] for point in points if point in found}


def independent_places(points):
    """Places of members that are enough to tell all points apart, and none too many."""
    first, heads = points[0], []
    for point in points[1:]:
        lead = difference_of(point, first)
        for at, head in heads:
            if lead[at] != 0:
                own, top = lead[at], head[at]
                lead = [top * x - own * y for x, y in zip(lead, head)]
        size = content_of(lead)
        if size != 0:
            head = [x // size for x in lead]
            heads.append((head_place(head), head))
        if len(heads) == len(first):
            break
    return sorted([at for at, _ in heads])


def short_forms(length):
    """The forms that tell one member, or the sum or the difference of two."""
    units = [tuple([1 if k == at else 0 for k in range(length)]) for at in range(length)]
    found = list(units)
    for at in range(length if length <= MOST_PAIRED else 0):
        for beside in range(at):
            for sign in (1, -1):
                found.append(tuple([x + sign * y for x, y in zip(units[at], units[beside])]))
    return found


def put_ends(form, points, found):
    """Puts the last one of the points that are greatest, and the first one of those that are least, to the corners."""
    told = tells(form, points)
    indices = range(len(told))
    high, last = max(zip(told, indices))
    low, first = min(zip(told, indices))
    if points[last] not in found:
        found[points[last]] = form if told.count(high) == 1 else None
    if points[first] not in found:
        found[points[first]] = times(form, -1) if told.count(low) == 1 else None


def single_cut(points, known, most, guesses):
    """The corners, one by one; each form on the way tells one, too."""
    found = {point: known[point] for point in known}
    for form in short_forms(len(points[0])):
        put_ends(form, points, found)
    left = list(points)
    for point in points:
        if len(found) > most:
            break
        if point not in found:
            others = [other for other in left if other != point]
            table = settled(((point, others),), (), None, guesses.get(point))
            if table.price[-1] != 0:
                found[point] = table.told_form()
            else:
                left = others
            for top, price in table.tops:
                if found.get(top) is None:
                    found[top] = tuple([-x for x in price])
    return {point: found[point] for point in sorted(found)}


def shadow_of(lot, rows):
    """The corners of the rows of the products of some rows with each point of a lot."""
    lines = [tells(row, lot) for row in rows]
    points = list(zip(*lines))
    return cut(tuple(sorted(set(points))), len(points))


def join_cut(one, other, most):
    """The corners of the points of both; if there are more than `most`, more than these."""
    return cut(tuple(sorted(set(one + other))), most)


def guided_join(one, other, most):
    """The join of two lots with guides."""
    points, known = tuple(sorted(set(list(one) + list(other)))), {}
    if len(points[0]) <= 2:
        return {point: None for point in cut(points, most)}
    guesses = {**one, **other}
    for point in guesses:
        form = guesses[point]
        if form is not None:
            told = tells(form, points)
            greatest = max(told)
            if told.count(greatest) == 1:
                known[points[told.index(greatest)]] = form
    return guided_cut(points, known, most, True, guesses)
