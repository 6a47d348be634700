"""Networks of ramps: values, patterns, forms, and networks put together."""

from rampworks.base.checks import BEYOND, is_short, is_short_row, need_number
from rampworks.base.linear import difference_of, mixture, product_of, sum_of, times
from rampworks.errors import InvalidNetwork, InvalidOperation, InvalidRow, TooMany

MOST_INPUTS = 8
MOST_LAYERS = 4
MOST_IN_LAYER = 64
MOST_UNITS = 128


class Network:
    """Inputs, layers of units, and a last row."""

    def __init__(self, inputs, layers, last):
        if not are_parts(inputs, layers, last):
            raise InvalidNetwork("these are no parts of a network")
        self.inputs = inputs
        self.layers = layers
        self.last = last
        self.depth = len(layers)
        self.units = tuple([unit for layer in layers for unit in layer])

    def __eq__(self, value):
        return (isinstance(value, Network) and self.inputs == value.inputs and self.layers == value.layers
                and self.last == value.last)

    def __str__(self):
        return f"network of {self.inputs} inputs, {layers_told(self.layers)}"


def layers_told(layers):
    """How many units each layer has, in words."""
    if not layers:
        return "no layers"
    return "layers " + " ".join([str(len(layer)) for layer in layers])


def are_parts(inputs, layers, last):
    """Whether the three make a network."""
    if not is_short(inputs) or not 1 <= inputs <= MOST_INPUTS:
        return False
    if not isinstance(layers, tuple) or len(layers) > MOST_LAYERS:
        return False
    width = inputs
    for layer in layers:
        if not isinstance(layer, tuple) or not 1 <= len(layer) <= MOST_IN_LAYER:
            return False
        if not all([is_short_row(unit, width, width) for unit in layer]):
            return False
        width += len(layer)
    return width - inputs <= MOST_UNITS and is_short_row(last, width, width)


def need_network(network):
    """Refuses what is no network."""
    if not isinstance(network, Network):
        raise InvalidNetwork("this is no network")


def need_network_and_row(network, row):
    """Refuses what are no network and no row of its inputs."""
    need_network(network)
    if not is_short_row(row, network.inputs, network.inputs):
        raise InvalidRow("a row has an integer for each input")


def need_networks(one, other):
    """Refuses what are no networks with equally many inputs."""
    need_network(one)
    need_network(other)
    if one.inputs != other.inputs:
        raise InvalidOperation("networks with unlike inputs")


def all_values(network, row):
    """The inputs and the values of all units, in one list."""
    found = list(row)
    for layer in network.layers:
        found = found + [max(0, product_of(unit, found)) for unit in layer]
    return found


def value_of(network, row):
    """The value of the network at the row."""
    need_network_and_row(network, row)
    return product_of(network.last, all_values(network, row))


def unit_values(network, row):
    """The tuple of the values of all units."""
    need_network_and_row(network, row)
    return tuple(all_values(network, row)[network.inputs:])


def pattern_at(network, row):
    """The tuple that tells for each unit whether its row tells more than 0."""
    need_network_and_row(network, row)
    return tuple([value > 0 for value in all_values(network, row)[network.inputs:]])


def form_at(network, row):
    """The form of the network wherever the pattern is that of the row."""
    need_network_and_row(network, row)
    many = network.inputs
    values = all_values(network, row)
    forms = [unit_row(at, many) for at in range(many)]
    for unit in network.units:
        is_on = values[len(forms)] > 0
        forms = forms + [mixture(unit, forms, many) if is_on else (0,) * many]
    return mixture(network.last, forms, many)


def unit_row(at, length):
    """The row that is 1 at its place, and 0 else."""
    return tuple([1 if k == at else 0 for k in range(length)])


def form_network(row):
    """The network without layers with this last row."""
    if not is_short_row(row, 1, MOST_INPUTS):
        raise InvalidRow("a form has 1 to 8 integers")
    return Network(len(row), (), row)


def bounded(inputs, layers, last):
    """The network of these parts, with the errors of networks that are put together."""
    if len(layers) > MOST_LAYERS:
        raise TooMany(MOST_LAYERS)
    if any([len(layer) > MOST_IN_LAYER for layer in layers]):
        raise TooMany(MOST_IN_LAYER)
    if sum([len(layer) for layer in layers]) > MOST_UNITS:
        raise TooMany(MOST_UNITS)
    rows = [unit for layer in layers for unit in layer] + [last]
    if not all([-BEYOND < x < BEYOND for row in rows for x in row]):
        raise TooMany(BEYOND)
    return Network(inputs, layers, last)


def widened(row, places, width):
    """The row with its members at these places, and 0 else."""
    found = [0] * width
    for place, x in zip(places, row):
        found[place] = x
    return tuple(found)


def layer_at(network, at):
    """The units of a layer, none if there is no such layer."""
    return network.layers[at] if at < network.depth else ()


def side_by_side(one, other):
    """The layers of both networks, and the last row of each of them among all units."""
    width, layers = one.inputs, []
    # Where the members of a row of the one network, and of the other one, stand from now on.
    left, right = list(range(width)), list(range(width))
    for at in range(max(one.depth, other.depth)):
        units = [widened(unit, left, width) for unit in layer_at(one, at)]
        others = [widened(unit, right, width) for unit in layer_at(other, at)]
        left = left + list(range(width, width + len(units)))
        width += len(units)
        right = right + list(range(width, width + len(others)))
        width += len(others)
        layers.append(tuple(units + others))
    return tuple(layers), widened(one.last, left, width), widened(other.last, right, width)


def added(one, other):
    """The sum of two networks."""
    need_networks(one, other)
    layers, left, right = side_by_side(one, other)
    return bounded(one.inputs, layers, sum_of(left, right))


def multiplied(network, number):
    """The network with its last row times the number."""
    need_network(network)
    need_number(number)
    return bounded(network.inputs, network.layers, times(network.last, number))


def ramped(network):
    """The greater one of 0 and the network."""
    need_network(network)
    last = (0,) * len(network.last) + (1,)
    return bounded(network.inputs, (*network.layers, (network.last,)), last)


def greater(one, other):
    """The greater one of two networks: the other one, and the ramp of the one less it."""
    need_networks(one, other)
    layers, left, right = side_by_side(one, other)
    return bounded(one.inputs, (*layers, (difference_of(left, right),)), (*right, 1))


def mattering(network):
    """For each unit, in their sequence, whether it matters."""
    many = len(network.units)
    found = [False] * many
    behind = [network.last]
    for at in reversed(range(many)):
        place = network.inputs + at
        found[at] = any([len(row) > place and row[place] != 0 for row in behind])
        if found[at]:
            behind.append(network.units[at])
    return found


def trimmed(network):
    """The network without the units that do not matter."""
    need_network(network)
    found = mattering(network)
    kept = [True] * network.inputs + found
    layers, at = [], 0
    for layer in network.layers:
        units = [unit for k, unit in enumerate(layer) if found[at + k]]
        at += len(layer)
        if units:
            layers.append(tuple([left_of(unit, kept) for unit in units]))
    return Network(network.inputs, tuple(layers), left_of(network.last, kept))


def left_of(row, kept):
    """The members of the row that are kept."""
    return tuple([x for x, stays in zip(row, kept) if stays])
