"""Volumes of lots, told by partings into simplices."""

from rampworks.base.checks import is_told, is_whole_row
from rampworks.base.lattices import kernel_of
from rampworks.base.linear import difference_of, head_place, product_of
from rampworks.errors import InvalidOperation, TooMany
from rampworks.hull.corners import need_lot
from rampworks.hull.cuts import cut
from rampworks.hull.simplices import forms_at, is_parted, parted, volume_of

MOST_CORNERS = 60
MOST_WIDE = 4


def need_narrow(lot):
    """Refuses what is no lot of rows of at most four members."""
    need_lot(lot)
    if len(lot[0]) > MOST_WIDE:
        raise InvalidOperation("volumes are told for points of at most four members")


def few_corners(lot):
    """The corners of a lot, refused if they are too many."""
    need_narrow(lot)
    tips = cut(lot, MOST_CORNERS)
    if len(tips) > MOST_CORNERS:
        raise TooMany(MOST_CORNERS)
    return tips


def volume(lot):
    """vol of the lot."""
    need_narrow(lot)
    # Points that are no corners change no volume, and few points have few corners.
    return volume_of(lot if len(lot) <= MOST_CORNERS else few_corners(lot))


def parting(lot):
    """EITHER a parting of the lot, OR a row other than 0 that tells one number for all points."""
    tips = few_corners(lot)
    found = parted(tips)
    if not found:
        return "flat", forms_at(tips, len(lot[0]))[0]
    places = {point: at for at, point in enumerate(lot)}
    labels = [places[tip] for tip in tips]
    return "parted", tuple([tuple([labels[index] for index in simplex]) for simplex in found])


def is_parting(lot, value):
    """Whether the value shows that the lot has a parting, or that it is flat."""
    need_narrow(lot)
    if is_told(value, "parted", 2):
        return is_parted(lot, value[1])
    if is_told(value, "flat", 2):
        row = value[1]
        if not is_whole_row(row, len(lot[0])) or all([x == 0 for x in row]):
            return False
        told = product_of(row, lot[0])
        return all([product_of(row, point) == told for point in lot])
    return False


def numbers_in(basis, row):
    """How many times each row of the basis of a lattice is in a row of it."""
    numbers, left = [], row
    for line in basis:
        at = head_place(line)
        number = left[at] // line[at]
        numbers.append(number)
        left = [x - number * y for x, y in zip(left, line)]
    return tuple(numbers)


def own_volume(lot):
    """The pair (dimension, own volume)."""
    tips = few_corners(lot)
    if len(tips) == 1:
        return 0, 1
    forms = forms_at(tips, len(lot[0]))
    if not forms:
        return len(lot[0]), volume_of(tips)
    basis = kernel_of(forms, len(lot[0]))
    points = [numbers_in(basis, difference_of(tip, tips[0])) for tip in tips]
    return len(basis), volume_of(sorted(points))
