"""Mixed volumes: what vol of a sum of lots, each so many times, is made of."""

from math import factorial

from rampworks.base.checks import are_ascending, are_short_rows, is_told, is_whole_row
from rampworks.base.choices import across, lots_of_indices
from rampworks.base.lattices import kernel_of
from rampworks.base.linear import content_of, determinant_of, difference_of, tells
from rampworks.errors import InvalidOperation, TooMany
from rampworks.hull.corners import is_lot, need_lots, need_point_row
from rampworks.hull.cuts import cut, shadow_of
from rampworks.hull.parcels import leads_of, low_lots, mixed_of, rank_of, row_of, shapes_in
from rampworks.hull.supports import shell_in_sum
from rampworks.hull.totals import lots_cut

MOST_STICKS = 24
MOST_WIDE = 4
MOST_TIPS = 60
# From so many ways to take a point of each lot on, a shell is told faster than pair by pair.
MANY_WAYS = 200


def are_lots(lots, more):
    """Whether the value is a tuple of lots whose points have so many members more than there are lots, at most four."""
    if not isinstance(lots, tuple) or not 1 <= len(lots) <= MOST_WIDE - more:
        return False
    return all([is_lot(lot) and len(lot[0]) == len(lots) + more for lot in lots])


def need_square_lots(lots):
    """Refuses what are not as many lots as their points have members."""
    if not are_lots(lots, 0):
        raise InvalidOperation("lots are one to four, as many as their points have members")


def few_tips(tips):
    """Gives corners back, but refuses too many."""
    if len(tips) > MOST_TIPS:
        raise TooMany(MOST_TIPS)
    return tips


def need_few_tips(lots):
    """The cut lots; refused if their sum has too many corners, as no sum of some of them has more."""
    tips, ways = [few_tips(cut(lot, MOST_TIPS)) for lot in lots], 1
    shapes = shapes_in(tips)
    for shape in shapes:
        ways *= len(shape)
    if ways > MOST_TIPS and len(shapes) > 1:
        shell = shell_in_sum(shapes, [], MOST_TIPS) if len(tips[0][0]) > 2 and ways > MANY_WAYS else None
        few_tips(lots_cut(shapes, MOST_TIPS) if shell is None else shell.points)
    return tips


def mixed(lots):
    """The mixed volume of as many lots as their points have members."""
    need_square_lots(lots)
    return mixed_of(need_few_tips(lots))


def mixed_row(one, other):
    """The mixed volumes of i times the one lot, and of the other one as often as members are left, i from 0 on."""
    need_lots(one, other)
    if len(one[0]) > MOST_WIDE:
        raise InvalidOperation("mixed volumes are told for points of at most four members")
    one, other = need_few_tips((one, other))
    return row_of(one, other)


def stick_volume(rows):
    """vol of the sum of the sticks of some rows, told by determinants."""
    if not are_short_rows(rows, MOST_STICKS, MOST_WIDE):
        raise InvalidOperation("sticks are 1 to 24 rows of one to four integers")
    length, total = len(rows[0]), 0
    for lot in lots_of_indices(len(rows), length - 1):
        ray = across([rows[k] for k in lot])
        later = rows[lot[-1] + 1:] if lot else rows
        total += sum([abs(told) for told in tells(ray, later)])
    return factorial(length) * total


def mixed_with_stick(lots, row):
    """The mixed volume of one lot less than their points have members, and of the stick of the row."""
    if not are_lots(lots, 1):
        raise InvalidOperation("lots are one to three, one less than their points have members")
    need_point_row(row)
    length = len(lots) + 1
    if len(row) != length:
        raise InvalidOperation("unlike lengths")
    size = content_of(row)
    if size == 0:
        return 0
    forms = kernel_of([row], length)
    return size * mixed_of(need_few_tips([shadow_of(lot, forms) for lot in lots]))


def chosen_leads(leads):
    """For each lot one of its leads, all of them independent; None if there are no such ones."""
    found = [()]
    for own in leads:
        found = [(*lot, lead) for lot in found for lead in own]
    for lot in found:
        if determinant_of([row for _, row in lot]) != 0:
            return lot
    return None


def pairs_or_low(lots):
    """EITHER pairs of points of each lot with independent differences, OR lots whose sum has a low dimension."""
    need_square_lots(lots)
    leads = [leads_of(lot) for lot in lots]
    low = low_lots(leads)
    if low is not None:
        return "low", low
    return "pairs", tuple([(0, index) for index, _ in chosen_leads(leads)])


def are_pairs(lots, value):
    """Whether the value is a pair of indices of points for each lot."""
    if not isinstance(value, tuple) or len(value) != len(lots):
        return False
    for pair, lot in zip(value, lots):
        if not is_whole_row(pair, 2) or min(pair) < 0 or max(pair) >= len(lot):
            return False
    return True


def is_pairs_or_low(lots, value):
    """Whether the value shows that the mixed volume is above 0, or that it is 0."""
    need_square_lots(lots)
    if is_told(value, "pairs", 2):
        if not are_pairs(lots, value[1]):
            return False
        return determinant_of([difference_of(lot[y], lot[x]) for (x, y), lot in zip(value[1], lots)]) != 0
    if not is_told(value, "low", 2) or not isinstance(value[1], tuple):
        return False
    low = value[1]
    if not is_whole_row(low, len(low)) or not low or low[0] < 0 or low[-1] >= len(lots) or not are_ascending(low):
        return False
    return rank_of([row for k in low for _, row in leads_of(lots[k])]) < len(low)
