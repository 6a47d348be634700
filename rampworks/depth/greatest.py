"""How many layers the greatest of some numbers needs: networks that tell it, and rows that bar them."""

from rampworks.base.checks import is_short, is_told, is_whole_row
from rampworks.errors import InvalidNumber
from rampworks.hull.cuts import cut
from rampworks.hull.matches import are_alike
from rampworks.hull.simplices import volume_of
from rampworks.net.mixes import lots_of
from rampworks.net.networks import MOST_LAYERS, Network, unit_row
from rampworks.net.readings import MOST_READ, layers_for, need_lots_of, tree_of

MOST_NUMBERS = 6


def need_many(many):
    """Refuses what is no number of numbers."""
    if not is_short(many) or not 1 <= many <= MOST_NUMBERS:
        raise InvalidNumber(many)


def need_many_and_layers(many, layers):
    """Refuses what is no number of numbers, or no number of layers."""
    need_many(many)
    if not is_short(layers) or not 0 <= layers <= MOST_LAYERS:
        raise InvalidNumber(layers)


def units_of(many):
    """The ascending lot of the forms that tell one input each."""
    return tuple([unit_row(at, many) for at in reversed(range(many))])


def least_layers(many):
    """The least number of layers with which the greatest of so many numbers is told."""
    need_many(many)
    return layers_for(many)


def greatest_network(many):
    """A network with so few layers that tells the greatest of its inputs."""
    need_many(many)
    return tree_of(units_of(many))


def is_greatest_reading(reading, many):
    """Whether a reading of corners alone tells the greatest of so many inputs."""
    above, below = reading
    return are_alike((units_of(many), below), (above, ((0,) * many,)))


def does_tell_greatest(network):
    """Whether the network tells the greatest of its inputs for all of them."""
    return is_greatest_reading(need_lots_of(network), network.inputs)


def greatest_or_bar(many, layers):
    """EITHER a network with at most so many layers that tells the greatest, OR rows that bar it."""
    need_many_and_layers(many, layers)
    if layers_for(many) <= layers:
        return "network", greatest_network(many)
    # Beside the rows with one 1 all others are zeros, at least one of them.
    length = 1 << layers
    return "barred", tuple([unit_row(at, length) for at in range(many)])


def is_barring_lot(rows, many, length):
    """Whether the value is a tuple of so many rows of this length whose lot has an odd volume."""
    if not isinstance(rows, tuple) or len(rows) != many or not all([is_whole_row(row, length) for row in rows]):
        return False
    points = tuple(sorted(set(rows)))
    if len(points) <= length:
        return False
    return volume_of(cut(points, len(points))) % 2 == 1


def is_greatest_or_bar(many, layers, value):
    """Whether the value is one of both."""
    need_many_and_layers(many, layers)
    if is_told(value, "network", 2):
        network = value[1]
        if not isinstance(network, Network) or network.inputs != many or network.depth > layers:
            return False
        reading = lots_of(network, MOST_READ)
        return reading is not None and is_greatest_reading(reading, many)
    if is_told(value, "barred", 2):
        return is_barring_lot(value[1], many, 1 << layers)
    return False
