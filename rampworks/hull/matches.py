"""Whether two sums of lots of corners alone are alike, and where not, without bounds on integers."""

from rampworks.base.balance import form_or_weights
from rampworks.base.linear import content_of, difference_of, product_of, sum_of, tells
from rampworks.hull.cuts import cut
from rampworks.hull.totals import moved_by, sum_cut, ways_of

# So many rows are tried ahead of anything greater: these numbers have no plan.
MOST_TRIED = 12
TRIED = (
    17, 12, 19, 18, 2, 9, -9, 0, 18, 5, -11, -14, 0, 4, 20, -6, 7, -13, 10, -4, 13, 11, 17, -15, 4, 13, -19, -3,
    -15, -17, -1, 1, 0, 11, -8, 4, 9, 14, 7, 8, -17, 17, -6, -15, 8, -20, -4, -1, -15, -19, 6, -9, 19, -2, 16, -11,
    13, 15, 9, 0, -19, 13, 4, -12, 0, 2, -14, -16, -15, 15, -7, -19, 17, 12, 19, 18, 2, 9, -9, 0, 18, 5, -11, -14,
    0, 4, 20, -6, 7, -13, 10, -4, 13, 11, 17, -15)
# From more pairs on it is worth it to look for a part that both sums have, of at most so many points.
FEW_PAIRS = 100
MOST_IN_PART = 8
# So many bits more are tried in each step.
FEW_BITS = 6


def trial_rows(length):
    """Short rows, some along the axes, others in all directions, the same ones each time."""
    zeros, found = (0,) * length, []
    for at in range(length):
        found.append((*zeros[:at], 1, *zeros[at + 1:]))
        found.append((*zeros[:at], -1, *zeros[at + 1:]))
    return found + [TRIED[begin:begin + length] for begin in range(0, MOST_TRIED * length, length)]


def value_of_sum(pair, row):
    """What the sum of two lots tells for the row."""
    one, other = pair
    return max(tells(row, one)) + max(tells(row, other))


def tried_row(left, right):
    """A short row at which two sums, each of a pair of lots, are unlike, None if none was met."""
    for row in trial_rows(len(left[0][0])):
        if value_of_sum(left, row) != value_of_sum(right, row):
            return row
    return None


def are_plainly_alike(left, right):
    """Whether one lot is moved from the one sum to the other one, and the other lot back: so they are alike."""
    for one, other in (right, right[::-1]):
        if len(one) == len(left[0]) and len(other) == len(left[1]):
            row, back = difference_of(one[0], left[0][0]), difference_of(left[1][0], other[0])
            if row == back and moved_by(left[0], row) == one and moved_by(other, row) == left[1]:
                return True
    return False


def greatest_one(row, points):
    """Of the points for which the row tells most the last one."""
    told = tells(row, points)
    indices = range(len(points))
    _, last = max(zip(told, indices))
    return points[last]


def part_beside(smaller, greater):
    """The lot that makes the greater lot with the smaller one, if there is such a small one; else any other one."""
    found = []
    for row in trial_rows(len(smaller[0])):
        found.append(difference_of(greatest_one(row, greater), greatest_one(row, smaller)))
    points = tuple(sorted(set(found)))
    return cut(points, len(points))


def have_one_part(smaller, greater):
    """Whether one and the same small lot was found that makes both greater lots with the smaller ones."""
    if len(smaller[0]) > len(greater[0]) or len(smaller[1]) > len(greater[1]):
        return False
    part = part_beside(smaller[0], greater[0])
    if len(part) > MOST_IN_PART or part != part_beside(smaller[1], greater[1]):
        return False
    return all([sum_cut(lot, part, len(own)) == own for lot, own in zip(smaller, greater)])


def have_like_parts(left, right):
    """Whether two sums were found to be alike as one lot of each is greater by one and the same part."""
    for one, other in (right, right[::-1]):
        if have_one_part((left[0], other), (one, left[1])) or have_one_part((one, left[1]), (left[0], other)):
            return True
    return False


def part_between(smaller, greater):
    """The small lot that makes the greater lot with the smaller one, None if none was found."""
    part = part_beside(smaller, greater)
    if len(part) > MOST_IN_PART or sum_cut(smaller, part, len(greater)) != greater:
        return None
    return part


def without_common(one, other):
    """Two lots of whose values the difference is the same: small ones, if the one is greater by a small part."""
    smaller, greater = (one, other) if len(one) <= len(other) else (other, one)
    part = part_between(smaller, greater)
    if part is None:
        return one, other
    zeros = ((0,) * len(one[0]),)
    return (zeros, part) if len(one) <= len(other) else (part, zeros)


def corners_in_sum(pair):
    """The corners of the sum of two lots."""
    one, other = pair
    return sum_cut(one, other, len(one) * len(other))


def are_wide(left, right):
    """Whether the corners of two sums are worth it to look for a shorter way."""
    return len(left[0][0]) > 2 and len(left[0]) * len(left[1]) + len(right[0]) * len(right[1]) > FEW_PAIRS


def are_alike(left, right):
    """Whether two sums, each of a pair of lots, have the same corners."""
    if are_plainly_alike(left, right):
        return True
    if tried_row(left, right) is not None:
        return False
    if are_wide(left, right) and have_like_parts(left, right):
        return True
    return corners_in_sum(left) == corners_in_sum(right)


def unlike_row(left, right):
    """A row at which two sums, each of a pair of lots, are unlike, None if there is none."""
    if are_plainly_alike(left, right):
        return None
    row = tried_row(left, right)
    if row is None and not (are_wide(left, right) and have_like_parts(left, right)):
        row = unlike_by_corners(left, right)
    return row


def unlike_by_corners(left, right):
    """The same, by the corners of both sums."""
    totals, others = corners_in_sum(left), corners_in_sum(right)
    if totals == others:
        return None
    for own, across, pair, beside in ((totals, others, left, right), (others, totals, right, left)):
        known = {total: True for total in across}
        for total in own:
            if total not in known:
                return row_at(total, pair, beside)
    return None


def leads_at(lots, points):
    """The differences of each of the points, one of each lot, to all others of its lot."""
    return [difference_of(point, other) for lot, point in zip(lots, points) for other in lot if other != point]


def form_at_corner(lots, points):
    """A short form that is greater at each of the points, one of each of two lots, than at all others of its lot.

    The sum of the points is a corner of the sum of the lots.
    """
    groups = []
    for lot, point in zip(lots, points):
        groups.append((point, [other for other in lot if other != point]))
    told = form_or_weights(groups, None)
    return shortest_form(told[1], leads_at(lots, points))


def shortest_form(form, leads):
    """The form with about as few bits as it takes to be above 0 at all of the leads, where it is so."""
    many = max([x.bit_length() for x in form])
    for bits in range(many - FEW_BITS, 0, -FEW_BITS):
        short = [x >> bits for x in form]
        if not leads or min(tells(short, leads)) > 0:
            size = max(1, content_of(short))
            return tuple([x // size for x in short])
    return form


def corner_pairs(pair):
    """For each corner of the sum of two lots the two corners that make it."""
    one, other = pair
    ways, found = ways_of(one, other), {}
    for total in corners_in_sum(pair):
        at, beside = ways[total]
        found[total] = (one[at], other[beside])
    return found


def row_at(total, pair, beside):
    """A row at which two sums are unlike, of which the one has the corner, and the other one has not."""
    at, other = ways_of(pair[0], pair[1])[total]
    points = (pair[0][at], pair[1][other])
    form = form_at_corner(pair, points)
    if value_of_sum(beside, form) != product_of(form, total):
        return form
    # Here some other point is greatest of the other sum: it is greater where the form leans to it.
    lean = difference_of(other_greatest(total, beside, form), total)
    return leaning(form, lean, leads_at(pair, points))


def other_greatest(total, pair, form):
    """A sum of two points for which the form is greatest, other than the told one."""
    tops = []
    for lot in pair:
        told = tells(form, lot)
        greatest = max(told)
        tops.append([point for point, x in zip(lot, told) if x == greatest])
    first = sum_of(tops[0][0], tops[1][0])
    return first if first != total else sum_of(tops[0][-1], tops[1][-1])


def leaning(form, lean, leads):
    """The lean, and so many times the form, above 0 at all of the leads, as keeps it at least 0 at them."""
    many = 1
    for x, y in zip(tells(form, leads), tells(lean, leads)):
        if y + many * x < 0:
            many = -(y // x)
    return tuple([many * x + y for x, y in zip(form, lean)])
