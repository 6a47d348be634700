"""Signs of networks on cones: where a network is at least 0, which units are shut or open, and what is above what."""

from rampworks.base.balance import form_in_cone
from rampworks.base.checks import are_short_rows, are_weights, is_short_row, is_told, is_whole, is_whole_row, need_index
from rampworks.base.linear import difference_of, mixture, product_of, sum_of, times
from rampworks.errors import InvalidOperation, InvalidRow, TooMany
from rampworks.hull.matches import corner_pairs, trial_rows, without_common
from rampworks.hull.sums import MOST_PAIRS
from rampworks.net.alike import crossed_networks, told_at
from rampworks.net.bounds import are_surely_crossed, is_surely_read
from rampworks.net.mixes import inputs_told, plain_lots, ramp_told, row_told
from rampworks.net.networks import Network, all_values, need_network, need_networks, unit_row
from rampworks.net.readings import MOST_READ, need_lots_of

MOST_SIDES = 6
MOST_WIDE = 4
# From more ways to take a point of two lots each on it is worth it to look for what they have in common.
FEW_WAYS = 60


def need_cone(network, cone):
    """Refuses what is no cone for the network."""
    length = network.inputs
    if not isinstance(cone, tuple) or len(cone) > MOST_SIDES:
        raise InvalidOperation("a cone has at most six walls")
    if not all([is_short_row(wall, length, length) for wall in cone]):
        raise InvalidOperation("a wall has an integer for each input")


def need_network_and_cone(network, cone):
    """Refuses what are no network and no cone for it."""
    need_network(network)
    need_cone(network, cone)


def need_narrow(network):
    """Refuses a network with too many inputs."""
    if network.inputs > MOST_WIDE:
        raise InvalidOperation("signs are told for at most four inputs")


def need_read(network):
    """Refuses a network whose reading is refused, without it where it surely is not."""
    need_narrow(network)
    if not is_surely_read(network, MOST_READ):
        need_lots_of(network)


def is_within(cone, row):
    """Whether a row of integers of any length is in the cone."""
    return all([product_of(wall, row) >= 0 for wall in cone])


def is_in_cone(cone, row):
    """Whether the row is in the cone."""
    if not are_short_rows(cone, MOST_SIDES, MOST_WIDE):
        raise InvalidOperation("a cone has one to six walls here, of one to four integers")
    if not is_short_row(row, len(cone[0]), len(cone[0])):
        raise InvalidRow("a row is as long as the walls")
    return is_within(cone, row)


def is_row_in(cone, row, length):
    """Whether the value is a row of this length, of integers of any length, in the cone."""
    return is_whole_row(row, length) and is_within(cone, row)


def sum_or_row(point, above, cone):
    """EITHER ("sum", triple) that keeps the point from being above the lot on the cone, OR ("row", row) at which it is.

    The triple is as in [17.2].
    """
    if point in above:
        weights = [1 if other == point else 0 for other in above]
        return "sum", (1, tuple(weights), (0,) * len(cone))
    told = form_in_cone(((point, above),), cone)
    if told[0] == "form":
        return "row", told[1]
    _, weights, numbers = told
    return "sum", (sum(weights), tuple(weights), tuple(numbers))


def row_below(above, below, cone):
    """A row in the cone at which the first lot tells less than the second one, None if there is none."""
    for point in below:
        word, told = sum_or_row(point, above, cone)
        if word == "row":
            return told
    return None


def sign_or_row(network, cone):
    """EITHER sums that show that the network is at least 0 on the cone, OR a row in it at which it is below 0."""
    need_network_and_cone(network, cone)
    need_narrow(network)
    above, below = need_lots_of(network)
    sums = []
    for point in below:
        word, told = sum_or_row(point, above, cone)
        if word == "row":
            return "below", told
        sums.append(told)
    return "sums", tuple(sums)


def is_sum(point, above, cone, value):
    """Whether the value is a triple as in [17.2] for a point."""
    if not isinstance(value, tuple) or len(value) != 3:
        return False
    number, weights, numbers = value
    if not is_whole(number) or number < 1 or not are_weights(weights, len(above)) or sum(weights) != number:
        return False
    if not are_weights(numbers, len(cone)):
        return False
    length = len(point)
    return times(point, number) == difference_of(mixture(weights, above, length), mixture(numbers, cone, length))


def is_sign_or_row(network, cone, value):
    """Whether the value shows that the network is at least 0 on the cone, or that it is not."""
    need_network_and_cone(network, cone)
    need_read(network)
    if is_told(value, "below", 2):
        return is_row_in(cone, value[1], network.inputs) and told_at(network, value[1]) < 0
    if not is_told(value, "sums", 2) or not isinstance(value[1], tuple):
        return False
    above, below = need_lots_of(network)
    if len(value[1]) != len(below):
        return False
    return all([is_sum(point, above, cone, told) for point, told in zip(below, value[1])])


def kind_told(lots, cone):
    """The kind of a unit whose sum has this reading, with rows of the cone at which the sum is above and below 0."""
    above, below = lots
    one, other = row_below(below, above, cone), row_below(above, below, cone)
    if one is None:
        return "zero" if other is None else "shut", one, other
    return "open" if other is None else "mixed", one, other


def need_unit(network, layer, unit, cone):
    """The network of the sum of a unit; refuses what are no indices of one, and no cone."""
    need_network(network)
    need_index(layer, network.depth)
    need_index(unit, len(network.layers[layer]))
    need_cone(network, cone)
    return Network(network.inputs, network.layers[:layer], network.layers[layer][unit])


def unit_kind(network, layer, unit, cone):
    """What kind the unit has on the cone: "zero", "shut", "open" or "mixed"."""
    told = need_unit(network, layer, unit, cone)
    need_narrow(told)
    kind, _, _ = kind_told(need_lots_of(told), cone)
    return kind


def sum_at(network, layer, unit, row):
    """The sum of a unit at a row of integers of any length."""
    return product_of(network.layers[layer][unit], all_values(network, row))


def are_rows_of_mixed(network, layer, unit, cone, one, other):
    """Whether both values are rows of the cone at which the sum of a unit is above 0, and below 0."""
    if not is_row_in(cone, one, network.inputs) or not is_row_in(cone, other, network.inputs):
        return False
    return sum_at(network, layer, unit, one) > 0 > sum_at(network, layer, unit, other)


def is_mixed(network, layer, unit, cone, value):
    """Whether the value is a pair of rows of the cone that show that the unit is mixed."""
    need_read(need_unit(network, layer, unit, cone))
    if not isinstance(value, tuple) or len(value) != 2:
        return False
    return are_rows_of_mixed(network, layer, unit, cone, value[0], value[1])


def need_few(lots):
    """Gives a pair of lots back, but refuses None, which stands for too many corners."""
    if lots is None:
        raise TooMany(MOST_READ)
    return lots


def kinds_told(network, cone):
    """The kinds of the units up to the first mixed one; with this one, told by both indices and two rows, or None."""
    length, kinds = network.inputs, []
    told = inputs_told(length)
    for at, layer in enumerate(network.layers):
        sums = []
        for index, unit in enumerate(layer):
            lots = need_few(row_told(unit, told, length, MOST_READ))
            kind, one, other = kind_told(plain_lots(lots), cone)
            if kind == "mixed":
                return kinds, (at, index, one, other)
            kinds.append(kind)
            sums.append(lots)
        if at < network.depth - 1:
            told.extend([need_few(ramp_told(lots, MOST_READ)) for lots in sums])
    return kinds, None


def form_by(network, kinds):
    """The form of a network whose units have these kinds, none of them mixed."""
    length = network.inputs
    forms = [unit_row(at, length) for at in range(length)]
    for unit, kind in zip(network.units, kinds):
        forms.append(mixture(unit, forms, length) if kind == "open" else (0,) * length)
    return mixture(network.last, forms, length)


def form_or_unit(network, cone):
    """EITHER the form that the network is on the cone, if no unit is mixed, OR a mixed unit with two rows."""
    need_network_and_cone(network, cone)
    need_narrow(network)
    kinds, found = kinds_told(network, cone)
    return ("form", form_by(network, kinds)) if found is None else ("unit", *found)


def is_form_or_unit(network, cone, value):
    """Whether the value is right."""
    need_network_and_cone(network, cone)
    need_narrow(network)
    is_form = is_told(value, "form", 2)
    if is_form or not is_surely_read(network, MOST_READ):
        kinds, found = kinds_told(network, cone)
        if is_form:
            return found is None and is_whole_row(value[1], network.inputs) and value[1] == form_by(network, kinds)
    if not is_told(value, "unit", 5):
        return False
    _, layer, unit, one, other = value
    if not is_whole(layer) or not 0 <= layer < network.depth:
        return False
    if not is_whole(unit) or not 0 <= unit < len(network.layers[layer]):
        return False
    return are_rows_of_mixed(network, layer, unit, cone, one, other)


def need_above(network, other, cone):
    """Refuses what are no two networks, no cone, or too much to tell which one is above the other one."""
    need_network(network)
    need_network(other)
    need_cone(network, cone)
    need_networks(network, other)
    need_narrow(network)
    if not are_surely_crossed(network, other, MOST_READ, MOST_PAIRS):
        crossed_networks(network, other)


def tried_below(network, other, cone):
    """A short row of the cone at which the network is below the other one, None if none was met."""
    for row in trial_rows(network.inputs):
        if is_within(cone, row) and told_at(network, row) < told_at(other, row):
            return row
    return None


def row_beneath(network, other, cone):
    """A row of the cone at which the network is below the other one, None if there is none."""
    row = tried_below(network, other, cone)
    if row is not None:
        return row
    (one, beside), (two, further) = crossed_networks(network, other)
    if len(one) * len(beside) + len(two) * len(further) > FEW_WAYS:
        # Most often the networks have much in common.
        one, two = without_common(one, two)
        beside, further = without_common(beside, further)
    known = {sum_of(x, y): True for x in one for y in beside}
    pairs = corner_pairs((two, further))
    sides = tuple([(*wall, 0) for wall in cone])
    # The last member parts what the one pair of lots lacks from what the other one has left.
    lot, rest = [(*x, 1) for x in one], [(*x, -1) for x in beside]
    for total in pairs:
        if total not in known:
            x, y = pairs[total]
            told = form_in_cone((((*x, 0), lot), ((*y, 0), rest)), sides)
            if told[0] == "form":
                return told[1][:-1]
    return None


def above_or_row(network, other, cone):
    """EITHER the network is nowhere below the other one on the cone, OR a row of it at which it is."""
    need_above(network, other, cone)
    row = row_beneath(network, other, cone)
    return ("above",) if row is None else ("row", row)


def is_above_or_row(network, other, cone, value):
    """Whether the value is right."""
    need_above(network, other, cone)
    if is_told(value, "above", 1):
        return row_beneath(network, other, cone) is None
    if is_told(value, "row", 2) and is_row_in(cone, value[1], network.inputs):
        return told_at(network, value[1]) < told_at(other, value[1])
    return False
