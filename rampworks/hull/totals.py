"""Corners of sums of lots of corners alone, reckoned without bounds on integers; guides are told in `cuts`."""

from rampworks.base.balance import form_or_weights
from rampworks.base.linear import content_of, difference_of, product_of, sum_of, tells
from rampworks.hull.borders import plane_sum
from rampworks.hull.sheets import Sheet
from rampworks.hull.supports import plain_ends, shell_sum

# So many points of both lots are looked at in one table; more of them one by one.
MOST_IN_SHEET = 40
MOST_ON_STICK = 20
# From so many ways to take a point of each lot on, a shell is told faster than pair by pair.
MANY_OF_THREE = 45
MANY_OF_FOUR = 400


def shape_of(lot):
    """The pair (shape, number): the lot is the shape, from the point 0 on, times the number, but for a move."""
    points = tuple(lot)
    leads = [difference_of(point, points[0]) for point in points]
    number = content_of([content_of(lead) for lead in leads])
    return tuple([tuple([x // number for x in lead]) for lead in leads]), number


def moved_by(lot, row):
    """Each point and the row."""
    return tuple([sum_of(point, row) for point in lot])


def lots_cut(lots, most):
    """The corners of the sum of cut lots; if there are more than `most`, more than these."""
    return tuple(guided_total([{point: None for point in lot} for lot in lots], most, False))


def sum_cut(one, other, most):
    """The same of two lots."""
    return lots_cut((one, other), most)


def guided_sum(one, other, most, wants_forms):
    """The sum of two lots with guides; more than `most` corners if there are more."""
    left, right = tuple(one), tuple(other)
    length = len(left[0])
    if length == 1:
        return {total: None for total in sorted(set([sum_of(left[0], right[0]), sum_of(left[-1], right[-1])]))}
    if length == 2:
        return {total: None for total in plane_sum(left, right)}
    if len(right) == 1:
        return {sum_of(point, right[0]): one[point] for point in left}
    if len(left) == 1:
        return {sum_of(point, left[0]): other[point] for point in right}
    if len(right) == 2:
        return stick_sum(one, right, most, wants_forms)
    if len(left) == 2:
        return stick_sum(other, left, most, wants_forms)
    return pair_sum(one, other, most, wants_forms)


def guided_total(lots, most, wants_forms):
    """The sum of lots with guides; more than `most` corners if there are more."""
    length, ways = len(list(lots[0])[0]), 1
    for lot in lots:
        ways *= len(lot)
    if length == 3 and ways > MANY_OF_THREE or length == 4 and ways > MANY_OF_FOUR:
        hints = [lot[point] for lot in lots for point in lot if lot[point] is not None]
        found = shell_sum([tuple(lot) for lot in lots], hints, most)
        if found is not None:
            return found
    total = lots[0]
    for lot in lots[1:]:
        total = guided_sum(total, lot, most, wants_forms)
        if len(total) > most:
            break
    return total


def stick_sum(lot, ends, most, wants_forms):
    """The sum of a lot and of two points: a corner makes two if it is one seen along the stick, too, else one."""
    points, stick = tuple(lot), difference_of(ends[1], ends[0])
    told = tells(stick, points)
    spread, found = max(told) - min(told) + 1, {}
    sheet = Sheet((points,), stick, wants_forms) if len(points) <= MOST_ON_STICK else None
    known = tops_along(lot, stick, most) if sheet is None else {}
    if len(points) + len(known) > most:
        # Each corner makes one more at least.
        return {sum_of(point, end): None for point in points for end in ends}
    for at, point in enumerate(points):
        if point in known:
            form, side = known[point], 0
        elif sheet is None:
            form, side = side_alone(points, at, stick)
        else:
            form, side = (sheet.form, 0) if sheet.is_corner(at) else (None, sheet.side(at))
        own = lot[point]
        for sign, end in ((-1, ends[0]), (1, ends[1])):
            if side == 0:
                guide = guide_beside(form, spread, stick, sign) if wants_forms else None
                found[sum_of(point, end)] = guide
            elif side * sign > 0:
                is_guide = own is not None and product_of(own, stick) * sign > 0
                found[sum_of(point, end)] = own if is_guide else None
    return {total: found[total] for total in sorted(found)}


def tops_along(lot, stick, most):
    """Corners of a lot that are some also seen along the stick, with forms that are 0 along it and show this."""
    points, found, square = tuple(lot), {}, product_of(stick, stick)
    for point in points:
        if lot[point] is not None and len(points) + len(found) <= most:
            number = product_of(lot[point], stick)
            form = tuple([square * x - number * y for x, y in zip(lot[point], stick)])
            told = tells(form, points)
            greatest = max(told)
            if told.count(greatest) == 1:
                found[points[told.index(greatest)]] = form
    return found


def guide_beside(form, spread, stick, sign):
    """The form, 0 along the stick, changed so little that one end is greater."""
    return tuple([spread * x + sign * y for x, y in zip(form, stick)])


def side_alone(points, at, stick):
    """A form for a corner seen along the stick, and 0; else None, and on which end it lies: above 0, or below."""
    told = form_or_weights(((points[at], points[:at] + points[at + 1:]),), stick)
    if told[0] == "form":
        return told[1], 0
    return None, -told[2]


def ways_of(one, other):
    """The sums of a point of each lot, each with the one way to it, as indices, None if there are several."""
    found = {}
    for at, left in enumerate(one):
        for beside, right in enumerate(other):
            total = sum_of(left, right)
            found[total] = None if total in found else (at, beside)
    return found


def known_pairs(one, other):
    """Pairs of indices that make corners of the sum, with forms that show it, as far as the guides tell them."""
    left, right = tuple(one), tuple(other)
    found = {(last, end): None for last, end in zip(plain_ends(left), plain_ends(right))}
    for at, point in enumerate(left):
        if one[point] is not None:
            told = tells(one[point], right)
            greatest = max(told)
            if told.count(greatest) == 1:
                found[(at, told.index(greatest))] = one[point]
    for beside, point in enumerate(right):
        if other[point] is not None:
            told = tells(other[point], left)
            greatest = max(told)
            if told.count(greatest) == 1:
                found[(told.index(greatest), beside)] = other[point]
    return found


def pair_sum(one, other, most, wants_forms):
    """The sum of two lots, pair by pair."""
    left, right = tuple(one), tuple(other)
    known, ways, found = known_pairs(one, other), ways_of(left, right), {}
    is_small = len(left) + len(right) <= MOST_IN_SHEET
    sheet = Sheet((left, right), None, wants_forms) if is_small else None
    for total in ways:
        pair = ways[total]
        if pair is None:
            continue
        if pair in known:
            found[total] = known[pair]
        else:
            form = form_alone(left, right, pair) if sheet is None else form_told(sheet, pair, len(left))
            if form is not None:
                found[total] = tuple(form) if wants_forms else None
        if len(found) > most:
            break
    return {total: found[total] for total in sorted(found)}


def form_told(sheet, pair, begin):
    """The form that shows that the points of both indices make a corner, None if they make none."""
    one, other = pair[0], begin + pair[1]
    sheet.take(one, None)
    sheet.take(other, one)
    return sheet.form if sheet.is_pair(one, other) else None


def form_alone(left, right, pair):
    """The same, without a table for all points."""
    at, beside = pair
    told = form_or_weights((
        (left[at], left[:at] + left[at + 1:]), (right[beside], right[:beside] + right[beside + 1:])), None)
    return told[1] if told[0] == "form" else None
