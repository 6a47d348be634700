"""Readings: pairs of lots whose values, one less the other, are those of a network."""

from rampworks.base.checks import is_short_row, need_number
from rampworks.errors import InvalidOperation, InvalidReading, InvalidRow, TooMany
from rampworks.hull.corners import MOST_MEMBERS, corners_of, is_lot
from rampworks.hull.cuts import greatest_value
from rampworks.hull.matches import are_alike
from rampworks.hull.sums import bounded_join, bounded_sum, need_pairs, scaled_by
from rampworks.net.mixes import lots_of
from rampworks.net.networks import Network, added, form_network, greater, multiplied, need_network

MOST_READ = 60
MOST_FORMS = 16
# Differences of integers of 59 digits have at most sixty.
TOO_LONG = 10 ** 59


def is_reading(value):
    """Whether the value is a pair of lots of one length."""
    if not isinstance(value, tuple) or len(value) != 2:
        return False
    return is_lot(value[0]) and is_lot(value[1]) and len(value[0][0]) == len(value[1][0])


def need_reading(reading):
    """Refuses what is no reading."""
    if not is_reading(reading):
        raise InvalidReading("a reading is a pair of lots of one length")


def need_readings(one, other):
    """Refuses what are no readings of one length."""
    need_reading(one)
    need_reading(other)
    if len(one[0][0]) != len(other[0][0]):
        raise InvalidOperation("readings of unlike lengths")


def cut_reading(reading):
    """The reading with corners alone."""
    return corners_of(reading[0]), corners_of(reading[1])


def value_at_reading(reading, row):
    """What the reading tells for the row."""
    need_reading(reading)
    length = len(reading[0][0])
    if not is_short_row(row, length, length):
        raise InvalidRow("a row is as long as the points of the reading")
    return greatest_value(reading[0], row) - greatest_value(reading[1], row)


def need_lots_of(network):
    """The reading of a network, refused if it has too many corners on the way."""
    need_network(network)
    told = lots_of(network, MOST_READ)
    if told is None:
        raise TooMany(MOST_READ)
    return told


def reading_of(network):
    """The reading of a network."""
    return need_lots_of(network)


def reading_of_form(row):
    """The reading of a form."""
    if not is_short_row(row, 1, MOST_MEMBERS):
        raise InvalidRow("a form has 1 to 8 integers")
    return (row,), ((0,) * len(row),)


def added_reading(one, other):
    """The sum of two readings."""
    need_readings(one, other)
    (above, below), (further, beneath) = cut_reading(one), cut_reading(other)
    return bounded_sum(above, further), bounded_sum(below, beneath)


def multiplied_reading(reading, number):
    """The multiple of a reading."""
    need_reading(reading)
    need_number(number)
    above, below = cut_reading(reading)
    if number < 0:
        above, below = below, above
    return scaled_by(above, abs(number)), scaled_by(below, abs(number))


def ramped_reading(reading):
    """The greater one of 0 and the reading."""
    need_reading(reading)
    above, below = cut_reading(reading)
    return bounded_join(above, below), below


def greater_reading(one, other):
    """The greater one of two readings."""
    need_readings(one, other)
    (above, below), (further, beneath) = cut_reading(one), cut_reading(other)
    left = bounded_sum(above, beneath)
    right = bounded_sum(further, below)
    return bounded_join(left, right), bounded_sum(below, beneath)


def tell_the_same(one, other):
    """Whether two readings of corners alone tell the same for all rows."""
    return are_alike((one[0], other[1]), (other[0], one[1]))


def do_agree(one, other):
    """Whether two readings tell the same for all rows."""
    need_readings(one, other)
    left, right = cut_reading(one), cut_reading(other)
    need_pairs(left[0], right[1])
    need_pairs(right[0], left[1])
    return tell_the_same(left, right)


def is_reading_of(network, value):
    """Whether the value is a reading of the network, with at most 60 points in each lot."""
    told = need_lots_of(network)
    if not is_reading(value) or len(value[0][0]) != network.inputs:
        return False
    if len(value[0]) > MOST_READ or len(value[1]) > MOST_READ:
        return False
    return tell_the_same(cut_reading(value), told)


def few_forms(reading):
    """The corners of both lots of a reading that a network can be made of."""
    need_reading(reading)
    above, below = cut_reading(reading)
    if len(above) > MOST_FORMS or len(below) > MOST_FORMS:
        raise TooMany(MOST_FORMS)
    if not all([-TOO_LONG < x < TOO_LONG for form in above + below for x in form]):
        raise TooMany(TOO_LONG)
    return above, below


def tree_of(forms):
    """The network of the greatest of forms: a tree of pairs."""
    left = [form_network(form) for form in forms]
    while len(left) > 1:
        pairs = [greater(one, other) for one, other in zip(left[::2], left[1::2])]
        left = pairs + left[2 * len(pairs):]
    return left[0]


def network_of(reading):
    """The network that is made of a reading: the trees of both lots, one less the other."""
    above, below = few_forms(reading)
    network = added(tree_of(above), multiplied(tree_of(below), -1))
    if lots_of(network, MOST_READ) is None:
        raise TooMany(MOST_READ)
    return network


def layers_for(many):
    """How many layers it takes to halve so many forms, upwards, to one."""
    layers = 0
    while many > 1:
        many = (many + 1) // 2
        layers += 1
    return layers


def is_network_of(reading, value):
    """Whether the value is a network of the reading with as few layers, whose own reading is not refused."""
    above, below = few_forms(reading)
    if not isinstance(value, Network) or value.inputs != len(above[0]):
        return False
    if value.depth > layers_for(max(len(above), len(below))):
        return False
    told = lots_of(value, MOST_READ)
    return told is not None and tell_the_same((above, below), told)
