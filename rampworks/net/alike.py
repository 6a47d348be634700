"""Networks that tell the same, everywhere or along some rows; those that are a greatest of forms, or one form."""

from rampworks.base.checks import is_just, is_short_row, is_told, is_whole_row
from rampworks.base.linear import difference_of, mixture, product_of, sum_of, times
from rampworks.errors import InvalidOperation, TooMany
from rampworks.hull.cuts import cut, greatest_points, shadow_of
from rampworks.hull.matches import (
    are_alike, corner_pairs, form_at_corner, leads_at, leaning, trial_rows, unlike_row)
from rampworks.hull.sums import MOST_PAIRS, need_pairs
from rampworks.hull.totals import moved_by
from rampworks.net.bounds import are_surely_crossed, corners_bound, is_surely_read
from rampworks.net.mixes import lots_without, parts_told, plain_lots
from rampworks.net.networks import all_values, need_network, need_networks, unit_row
from rampworks.net.readings import MOST_READ, need_lots_of

MOST_ALONG = 4


def told_at(network, row):
    """The value of the network at a row of integers of any length."""
    return product_of(network.last, all_values(network, row))


def crossed_lots(one, other):
    """The two sums that are alike exactly if two readings are, each as a pair of lots, not too great ones."""
    left, right = (one[0], other[1]), (other[0], one[1])
    need_pairs(left[0], left[1])
    need_pairs(right[0], right[1])
    return left, right


def crossed_networks(one, other):
    """The same of two networks."""
    need_networks(one, other)
    reading = need_lots_of(one)
    return crossed_lots(reading, need_lots_of(other))


def need_crossed(one, other):
    """The same if there is doubt whether it is refused, None if it surely is not."""
    need_networks(one, other)
    if are_surely_crossed(one, other, MOST_READ, MOST_PAIRS):
        return None
    return crossed_networks(one, other)


def are_unlike_at(one, other, row):
    """Whether two networks have unlike values at a row of integers of any length."""
    return told_at(one, row) != told_at(other, row)


def sign_apart(one, other, row):
    """1 if two networks are unlike at the row, -1 if only at the opposite one, 0 if at none of both."""
    if are_unlike_at(one, other, row):
        return 1
    return -1 if are_unlike_at(one, other, times(row, -1)) else 0


def alike_or_point(one, other):
    """EITHER both networks have equal values at all rows, OR a row at which they have not."""
    sums = need_crossed(one, other)
    if sums is None:
        first = unit_row(0, one.inputs)
        sign = sign_apart(one, other, first)
        if sign != 0:
            return "point", times(first, sign)
        sums = crossed_networks(one, other)
    row = unlike_row(sums[0], sums[1])
    return ("alike",) if row is None else ("point", row)


def is_alike_or_point(one, other, value):
    """Whether the value is right."""
    sums = need_crossed(one, other)
    if is_told(value, "alike", 1):
        if sums is None:
            if sign_apart(one, other, unit_row(0, one.inputs)) != 0:
                return False
            sums = crossed_networks(one, other)
        return are_alike(sums[0], sums[1])
    if is_told(value, "point", 2) and is_whole_row(value[1], one.inputs):
        return are_unlike_at(one, other, value[1])
    return False


def need_along(one, other, rows):
    """The two sums of two networks, or None as of `need_crossed`, with the errors of what is told along rows."""
    need_network(one)
    need_network(other)
    if not isinstance(rows, tuple) or not 1 <= len(rows) <= MOST_ALONG:
        raise InvalidOperation("networks are told along one to four rows")
    for row in rows:
        if not is_short_row(row, one.inputs, one.inputs):
            raise InvalidOperation("a row has an integer for each input")
    return need_crossed(one, other)


def shadows_of(sums, rows):
    """The shadows of both lots of each of two sums."""
    left, right = sums
    return ((shadow_of(left[0], rows), shadow_of(left[1], rows)),
            (shadow_of(right[0], rows), shadow_of(right[1], rows)))


def alike_along(one, other, rows):
    """EITHER both networks have equal values at all sums of the rows, OR numbers for a sum at which they have not."""
    sums = need_along(one, other, rows)
    if sums is None:
        sign = sign_apart(one, other, rows[0])
        if sign != 0:
            return "numbers", times(unit_row(0, len(rows)), sign)
        sums = crossed_networks(one, other)
    left, right = shadows_of(sums, rows)
    numbers = unlike_row(left, right)
    return ("alike",) if numbers is None else ("numbers", numbers)


def is_alike_along(one, other, rows, value):
    """Whether the value is right."""
    sums = need_along(one, other, rows)
    if is_told(value, "alike", 1):
        if sums is None:
            if sign_apart(one, other, rows[0]) != 0:
                return False
            sums = crossed_networks(one, other)
        left, right = shadows_of(sums, rows)
        return are_alike(left, right)
    if is_told(value, "numbers", 2) and is_whole_row(value[1], len(rows)):
        return are_unlike_at(one, other, mixture(value[1], rows, one.inputs))
    return False


def pairs_met(above, below):
    """The pairs of a corner of each lot of a reading that make a corner of the sum of both."""
    if len(below) == 1:
        return [(point, below[0]) for point in above]
    if len(above) == 1:
        return [(above[0], point) for point in below]
    return list(corner_pairs((above, below)).values())


def forms_of(above, below, pairs):
    """The corners of the lot of the forms that a reading meets, told by such pairs."""
    forms = tuple(sorted(set([difference_of(point, other) for point, other in pairs])))
    # With one point in a lot these are the corners of the other one, moved, or turned.
    return forms if len(above) == 1 or len(below) == 1 else cut(forms, len(forms))


def are_few_forms(above, below):
    """Whether the forms that a reading meets are surely not too many for a sum with its second lot."""
    return len(below) == 1 or len(above) * len(below) * len(below) <= MOST_PAIRS


def has_surely_few_forms(network):
    """Whether a network is surely not refused by `need_few_forms`."""
    bounds = corners_bound(network, MOST_READ)
    return bounds is not None and bounds[0] * bounds[1] * bounds[1] <= MOST_PAIRS


def need_few_forms(network):
    """The reading of a network, refused if what tells whether this is a greatest of forms is too much."""
    above, below = need_lots_of(network)
    need_pairs(above, below)
    if not are_few_forms(above, below):
        need_pairs(below, forms_of(above, below, pairs_met(above, below)))
    return above, below


def excess(network, x, y):
    """How much more the network tells for the sum of two rows than for both together."""
    return told_at(network, sum_of(x, y)) - told_at(network, x) - told_at(network, y)


def both_told(network, row):
    """What the network tells for a row and for the opposite one together: 0 less their excess."""
    return told_at(network, row) + told_at(network, times(row, -1))


def tried_rows(network, is_above):
    """Two short rows with an excess other than 0, or, on demand, above 0; None if none were met."""
    rows = trial_rows(network.inputs)
    for row in rows:
        told = both_told(network, row)
        if told < 0 or told > 0 and not is_above:
            return row, times(row, -1)
    for x, y in zip(rows, rows[1:]):
        told = excess(network, x, y)
        if told > 0 or told < 0 and not is_above:
            return x, y
    return None


def rows_apart(lots, points, row):
    """Two rows, the second one being as told, where just one form is met at the first one, and at the sum of both.

    The form is that of the two points, one of each lot of a reading, which are greatest there.
    """
    leads = leads_at(lots, points)
    total = leaning(form_at_corner(lots, points), row, leads)
    return difference_of(total, row), row


def rows_above(above, below, pairs, forms):
    """Two rows with an excess above 0, None if the reading is the greatest of the forms."""
    zeros = (0,) * len(above[0])
    row = unlike_row((below, forms), (above, (zeros,)))
    if row is None:
        return None
    form = greatest_points(forms, row)[0]
    points = [pair for pair in pairs if difference_of(pair[0], pair[1]) == form][0]
    return rows_apart((above, below), points, row)


def greatest_or_rows(network):
    """EITHER the lot of which the network is the greatest, OR two rows with an excess above 0."""
    need_network(network)
    if has_surely_few_forms(network):
        first = unit_row(0, network.inputs)
        if both_told(network, first) < 0:
            return "rows", first, times(first, -1)
    above, below = need_few_forms(network)
    rows = tried_rows(network, True) if len(below) > 1 else None
    if rows is None:
        pairs = pairs_met(above, below)
        forms = forms_of(above, below, pairs)
        rows = rows_above(above, below, pairs, forms)
    return ("greatest", forms) if rows is None else ("rows", rows[0], rows[1])


def is_greatest_or_rows(network, value):
    """Whether the value shows that the network is a greatest of forms, or that it is none."""
    need_network(network)
    lots = None if has_surely_few_forms(network) else need_few_forms(network)
    if is_told(value, "greatest", 2):
        above, below = need_lots_of(network) if lots is None else lots
        forms = forms_of(above, below, pairs_met(above, below))
        return is_just(value[1], forms) and are_alike((below, forms), (above, ((0,) * network.inputs,)))
    if is_told(value, "rows", 3):
        _, x, y = value
        return is_whole_row(x, network.inputs) and is_whole_row(y, network.inputs) and excess(network, x, y) > 0
    return False


def straight_form(above, below):
    """The one form of a reading, None if there is none."""
    form = difference_of(above[0], below[0])
    return form if moved_by(below, form) == above else None


def straight_or_rows(network):
    """EITHER the form that the network is, OR two rows with an excess other than 0."""
    need_network(network)
    if is_surely_read(network, MOST_READ):
        first = unit_row(0, network.inputs)
        if both_told(network, first) != 0:
            return "rows", first, times(first, -1)
    above, below = need_lots_of(network)
    form = straight_form(above, below)
    if form is not None:
        return "straight", form
    rows = tried_rows(network, False)
    if rows is None:
        # The least points of both lots are greatest for one form.
        points = (above[0], below[0])
        zeros = ((0,) * network.inputs,)
        row = unlike_row((above, zeros), (moved_by(below, difference_of(above[0], below[0])), zeros))
        rows = rows_apart((above, below), points, row)
    return "rows", rows[0], rows[1]


def is_straight_or_rows(network, value):
    """Whether the value shows that the network is one form, or that it is none."""
    need_network(network)
    if not is_surely_read(network, MOST_READ):
        need_lots_of(network)
    if is_told(value, "straight", 2) and is_whole_row(value[1], network.inputs):
        first = unit_row(0, network.inputs)
        if both_told(network, first) != 0 or told_at(network, first) != value[1][0]:
            return False
        above, below = need_lots_of(network)
        return straight_form(above, below) == value[1]
    if is_told(value, "rows", 3):
        _, x, y = value
        return is_whole_row(x, network.inputs) and is_whole_row(y, network.inputs) and excess(network, x, y) != 0
    return False


def told_without(network, place, row):
    """The value at a row of the network with 0 in place of all members for the part at the place."""
    values = list(row)
    for layer in network.layers:
        values = values + [max(0, product_of(unit, values)) for unit in layer]
        if place < len(values):
            values[place] = 0
    return product_of(network.last, values)


def needless_of_one(network):
    """The places of the needless units of a network with one input: two rows tell all, and no lot is too great."""
    up, down, found = told_at(network, (1,)), told_at(network, (-1,)), []
    for place in range(1, 1 + len(network.units)):
        if told_without(network, place, (1,)) == up and told_without(network, place, (-1,)) == down:
            found.append(place)
    return found


def needless_places(network):
    """The places of the needless units of a network."""
    told = parts_told(network, MOST_READ)
    if told is None:
        raise TooMany(MOST_READ)
    reading, found = plain_lots(told[-1]), []
    for place in range(network.inputs, network.inputs + len(network.units)):
        lots = lots_without(network, told, place, MOST_READ)
        if lots is None:
            raise TooMany(MOST_READ)
        left, right = crossed_lots(reading, lots)
        if are_alike(left, right):
            found.append(place)
    return found


def needless(network):
    """The ascending tuple of the pairs (layer, unit) of the units without which the network tells the same."""
    need_network(network)
    places = needless_of_one(network) if network.inputs == 1 else needless_places(network)
    found, begin = [], network.inputs
    for at, layer in enumerate(network.layers):
        end = begin + len(layer)
        found.extend([(at, place - begin) for place in places if begin <= place < end])
        begin = end
    return tuple(found)
