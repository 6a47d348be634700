"""The cells into which the planes of the units of one layer part the space: corners, walls, and ways through them."""

from math import comb

from rampworks.base.balance import form_or_weights
from rampworks.base.checks import are_short_rows, are_weights, is_short, is_short_row, is_told, is_whole_row
from rampworks.base.choices import across, lots_of_indices
from rampworks.base.linear import content_of, eliminated, head_place, mixture, product_of, tells, times
from rampworks.errors import InvalidNumber, InvalidOperation, InvalidRow, Refused
from rampworks.stick.rays import cells_round

MOST_STICKS = 12
MOST_WIDE = 4


def need_sticks(sticks):
    """Refuses what are no sticks."""
    if not are_short_rows(sticks, MOST_STICKS, MOST_WIDE) or not all([any(row) for row in sticks]):
        raise InvalidOperation("sticks are 1 to 12 rows of 1 to 4 integers, not all 0")


def are_signs(value, many):
    """Whether the value is a tuple of so many signs."""
    return is_whole_row(value, many) and all([x == 1 or x == -1 for x in value])


def need_signs(signs, many):
    """Refuses what are no signs."""
    if not are_signs(signs, many):
        raise InvalidOperation("signs are 1 or -1 for each stick")


def need_sticks_and_signs(sticks, signs):
    """Refuses what are no sticks, and signs of them."""
    need_sticks(sticks)
    need_signs(signs, len(sticks))


def told_of(sticks, signs):
    """EITHER ("form", row) with a row that lies in the signs, OR ("weights", weights, 0) that bar them."""
    beneath = [times(row, -sign) for row, sign in zip(sticks, signs)]
    return form_or_weights((((0,) * len(sticks[0]), beneath),), None)


def row_in(sticks, signs):
    """A row that lies in the signs, None if they are no cell."""
    told = told_of(sticks, signs)
    return told[1] if told[0] == "form" else None


def need_cell(sticks, signs):
    """A row in a cell; refuses signs that are none."""
    row = row_in(sticks, signs)
    if row is None:
        raise Refused(("cell",))
    return row


def cell_or_weights(sticks, signs):
    """EITHER a row that lies in the signs, OR weights that bar them."""
    need_sticks_and_signs(sticks, signs)
    told = told_of(sticks, signs)
    return ("cell", told[1]) if told[0] == "form" else ("weights", tuple(told[1]))


def is_cell_or_weights(sticks, signs, value):
    """Whether the value shows that the signs are a cell, or that they are barred."""
    need_sticks_and_signs(sticks, signs)
    length = len(sticks[0])
    if is_told(value, "cell", 2):
        if not is_whole_row(value[1], length):
            return False
        return all([sign * told > 0 for sign, told in zip(signs, tells(value[1], sticks))])
    if is_told(value, "weights", 2):
        if not are_weights(value[1], len(sticks)) or not any(value[1]):
            return False
        both = [sign * weight for sign, weight in zip(signs, value[1])]
        return not any(mixture(both, sticks, length))
    return False


def cells(sticks):
    """The ascending tuple of all cells."""
    need_sticks(sticks)
    return tuple(sorted(cells_round(sticks)))


def count_cells(sticks):
    """How many cells there are."""
    need_sticks(sticks)
    return len(cells_round(sticks))


def most_cells(many, length):
    """The most cells of so many sticks of so many integers."""
    if not is_short(many) or not 1 <= many <= MOST_STICKS:
        raise InvalidNumber(many)
    if not is_short(length) or not 1 <= length <= MOST_WIDE:
        raise InvalidNumber(length)
    return 2 * sum([comb(many - 1, k) for k in range(length)])


def low_lot(sticks):
    """The indices of at most as many sticks as they have integers that are not independent, None if all such are."""
    many, length = len(sticks), len(sticks[0])
    if many < length:
        chosen, _, _ = eliminated(sticks)
        return None if len(chosen) == many else tuple(list(range(many)))
    for lot in lots_of_indices(many, length - 1):
        ray = across([sticks[k] for k in lot])
        if not any(ray):
            return lot
        for k in range(lot[-1] + 1 if lot else 0, many):
            if product_of(ray, sticks[k]) == 0:
                return (*lot, k)
    return None


def general_or_lot(sticks):
    """EITHER the sticks are general, OR a lot of them that shows that they are not."""
    need_sticks(sticks)
    lot = low_lot(sticks)
    return ("general",) if lot is None else ("lot", lot)


def is_general_or_lot(sticks, value):
    """Whether the value is right."""
    need_sticks(sticks)
    if is_told(value, "general", 1):
        return low_lot(sticks) is None
    if not is_told(value, "lot", 2) or not isinstance(value[1], tuple):
        return False
    lot = value[1]
    if not is_whole_row(lot, len(lot)) or not 1 <= len(lot) <= len(sticks[0]):
        return False
    if lot[0] < 0 or lot[-1] >= len(sticks) or not all([x < y for x, y in zip(lot, lot[1:])]):
        return False
    chosen, _, _ = eliminated([sticks[k] for k in lot])
    return len(chosen) < len(lot)


def corner_of(sticks, signs):
    """The corner of a cell: the sum of the sticks with the sign 1."""
    need_sticks_and_signs(sticks, signs)
    need_cell(sticks, signs)
    return mixture([1 if sign == 1 else 0 for sign in signs], sticks, len(sticks[0]))


def cell_at(sticks, row):
    """The cell in which the row lies, None if it is on a plane."""
    need_sticks(sticks)
    if not is_short_row(row, len(sticks[0]), len(sticks[0])):
        raise InvalidRow("a row is as long as the sticks")
    told = tells(row, sticks)
    return None if 0 in told else tuple([1 if x > 0 else -1 for x in told])


def planes_of(sticks):
    """The tuples of the indices of the sticks of each plane, ascending."""
    found = {}
    for at, stick in enumerate(sticks):
        size = content_of(stick)
        if stick[head_place(stick)] < 0:
            size = -size
        found.setdefault(tuple([x // size for x in stick]), []).append(at)
    return [tuple(found[row]) for row in found]


def turned_at(signs, plane):
    """The signs with those of the sticks of a plane turned."""
    return tuple([-sign if at in plane else sign for at, sign in enumerate(signs)])


def walls(sticks, signs):
    """The ascending tuple of the walls of a cell."""
    need_sticks_and_signs(sticks, signs)
    need_cell(sticks, signs)
    return tuple([plane for plane in planes_of(sticks) if row_in(sticks, turned_at(signs, plane)) is not None])


def need_ends(sticks, one, other):
    """Rows in two cells; refuses what are none."""
    need_sticks_and_signs(sticks, one)
    need_signs(other, len(sticks))
    return need_cell(sticks, one), need_cell(sticks, other)


def crossed_in_turn(sticks, planes, x, y):
    """The planes that are crossed from the row x to the row y: lists of such as are crossed at once, one by one."""
    shares = []
    for plane in planes:
        begin, end = abs(product_of(sticks[plane[0]], x)), abs(product_of(sticks[plane[0]], y))
        shares.append((begin, begin + end))
    # Unlike shares differ by 1 divided by a product of two wholes at least.
    size, found = max([whole for _, whole in shares], default=0) ** 2, {}
    for plane, (part, whole) in zip(planes, shares):
        found.setdefault(part * size // whole, []).append(plane)
    return [found[share] for share in sorted(found)]


def first_crossed(sticks, signs, planes):
    """The first one of some planes that is a wall of a cell."""
    for plane in planes[:-1]:
        if row_in(sticks, turned_at(signs, plane)) is not None:
            return plane
    return planes[-1]


def way_between(sticks, one, other):
    """A shortest way from the one cell to the other one."""
    x, y = need_ends(sticks, one, other)
    planes = [plane for plane in planes_of(sticks) if one[plane[0]] != other[plane[0]]]
    signs, found = one, [one]
    for together in crossed_in_turn(sticks, planes, x, y):
        left = list(together)
        while left:
            plane = first_crossed(sticks, signs, left)
            left.remove(plane)
            signs = turned_at(signs, plane)
            found.append(signs)
    return tuple(found)


def are_steps(sticks, value):
    """Whether each of some signs, the first of which are a cell, is a neighbour of those ahead."""
    planes, known = {plane: True for plane in planes_of(sticks)}, {value[0]: True}
    for one, other in zip(value, value[1:]):
        if tuple([at for at, sign in enumerate(one) if sign != other[at]]) not in planes:
            return False
        if other not in known:
            if row_in(sticks, other) is None:
                return False
            known[other] = True
    return True


def is_way(sticks, one, other, value):
    """Whether the value is a way from the one cell to the other one."""
    need_ends(sticks, one, other)
    if not isinstance(value, tuple) or not value or not all([are_signs(signs, len(sticks)) for signs in value]):
        return False
    return value[0] == one and value[-1] == other and are_steps(sticks, value)
