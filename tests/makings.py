"""Networks made of others: alike by making, or with one number changed; and what tests reckon of them by hand."""

from tests.helpers import dot, plus
from tests.test_networks import reckoned

from rampworks.net.networks import Network


def told_by(network, row):
    """The value, by the document's words."""
    return reckoned(network, row)[1]


def excess_of(network, x, y):
    return told_by(network, plus(x, y)) - told_by(network, x) - told_by(network, y)


def place_behind(network, layer):
    """The place just behind the units of a layer."""
    return network.inputs + sum(len(units) for units in network.layers[:layer + 1])


def with_unit(network, layer, unit, weights):
    """The network with a unit more at the end of a layer; `weights` tells each row's member for it."""
    place, layers = place_behind(network, layer), []

    def wide(row):
        return row[:place] + (weights(row),) + row[place:]
    for at, units in enumerate(network.layers):
        if at == layer:
            layers.append(units + (unit,))
        else:
            layers.append(units if at < layer else tuple(wide(row) for row in units))
    return Network(network.inputs, tuple(layers), wide(network.last))


def with_needless_unit(source, network):
    """A unit put in with members 0."""
    layer = source.randrange(network.depth)
    width = len(network.layers[layer][0])
    unit = tuple(source.randint(-3, 3) for _ in range(width))
    return with_unit(network, layer, unit, lambda row: 0)


def with_unit_apart(source, network):
    """A unit taken apart: it and a unit of its row twice make what it made."""
    layer = source.randrange(network.depth)
    units = network.layers[layer]
    at = source.randrange(len(units))
    place = place_behind(network, layer) - len(units) + at
    other = with_unit(network, layer, tuple(2 * x for x in units[at]), lambda row: row[place])

    def less(row):
        # What the unit of twice the row gives is taken off twice.
        return row[:place] + (-row[place],) + row[place + 1:]
    layers = other.layers[:layer + 1] + tuple(tuple(less(row) for row in rows) for rows in other.layers[layer + 1:])
    return Network(other.inputs, layers, less(other.last))


def with_layer(network):
    """A layer more: the value is its ramp less that of its opposite."""
    layer = (network.last, tuple(-x for x in network.last))
    return Network(network.inputs, (*network.layers, layer), (0,) * len(network.last) + (1, -1))


def with_input_apart(source, network):
    """An input told by two units of the first layer: its ramp less that of its opposite."""
    at = source.randrange(network.inputs)
    unit = tuple(int(k == at) for k in range(network.inputs))
    other = with_unit(network, 0, unit, lambda row: row[at])
    other = with_unit(other, 0, tuple(-x for x in unit), lambda row: -row[at])

    def less(row):
        return row[:at] + (0,) + row[at + 1:]
    layers = other.layers[:1] + tuple(tuple(less(row) for row in rows) for rows in other.layers[1:])
    return Network(other.inputs, layers, less(other.last))


def made_alike(source, network):
    """Networks that tell the same as this one, by making."""
    found = []
    if network.depth > 0:
        found += [with_needless_unit(source, network), with_unit_apart(source, network),
                  with_input_apart(source, network)]
    if network.depth < 4:
        found.append(with_layer(network))
    return found


def with_one_changed(source, network):
    """The network with one number changed."""
    rows = [list(row) for row in (*network.units, network.last)]
    row = source.choice(rows)
    row[source.randrange(len(row))] += source.choice((-1, 1))
    layers, left = [], [tuple(row) for row in rows]
    for units in network.layers:
        layers.append(tuple(left[:len(units)]))
        left = left[len(units):]
    return Network(network.inputs, tuple(layers), left[0])


def without_unit(network, layer, unit):
    """The network with 0 for the unit in all rows behind it."""
    place = place_behind(network, layer) - len(network.layers[layer]) + unit

    def less(row):
        return row[:place] + (0,) + row[place + 1:]
    layers = network.layers[:layer + 1] + tuple(tuple(less(row) for row in rows) for rows in network.layers[layer + 1:])
    return Network(network.inputs, layers, less(network.last))


def polygon_network(many, sign=1):
    """A network of one layer whose reading has 2 * many corners above, or, for the sign -1, below."""
    rows = tuple((1, k) for k in range(many))
    return Network(2, (rows,), (0, 0) + (sign,) * many)


def linked(rows, x):
    """The sum of the rows, each times its number."""
    total = (0,) * len(rows[0])
    for row, number in zip(rows, x, strict=True):
        total = plus(total, tuple(number * member for member in row))
    return total


def is_greatest_by(lot, network, row):
    return max(dot(point, row) for point in lot) == told_by(network, row)
