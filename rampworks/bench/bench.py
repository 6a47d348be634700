"""A bench: networks under names, edits that can be undone, and answers that last as long as they are right."""

from rampworks.base.checks import is_short_row, need_index
from rampworks.depth.puts import put_network
from rampworks.errors import InvalidOperation, InvalidRow, InvalidText, NothingToUndo, TooMany, UnknownName
from rampworks.net.alike import alike_or_point, are_unlike_at, is_alike_or_point
from rampworks.net.networks import MOST_IN_LAYER, MOST_UNITS, Network, need_network

MOST_NETWORKS = 12
MOST_NAME = 8
LETTERS = "abcdefghijklmnopqrstuvwxyz"


class Place:
    """The networks under their names, and the answers kept for pairs of names."""

    def __init__(self, networks, answers):
        self.networks = networks
        self.answers = answers


def is_name(value):
    """Whether the value is a string of 1 to 8 letters."""
    return isinstance(value, str) and 1 <= len(value) <= MOST_NAME and all([letter in LETTERS for letter in value])


def need_row(row, many):
    """Refuses what is no row of so many members."""
    if not is_short_row(row, many, many):
        raise InvalidRow("a row has a member for each input and each unit ahead")


def place_of(network, layer):
    """Where the members for the units of a layer begin in the rows behind it."""
    return network.inputs + sum([len(units) for units in network.layers[:layer]])


def changed_behind(network, layer, units, begin, end, put):
    """The network with these units in a layer; in all rows behind it what is put stands for members in a range."""
    layers = list(network.layers[:layer]) + [units]
    for later in network.layers[layer + 1:]:
        layers.append(tuple([row[:begin] + put + row[end:] for row in later]))
    return Network(network.inputs, tuple(layers), network.last[:begin] + put + network.last[end:])


def with_unit(network, layer, row):
    """The network with a unit more at the end of a layer, which has no say."""
    units = network.layers[layer]
    end = place_of(network, layer) + len(units)
    return changed_behind(network, layer, (*units, row), end, end, (0,))


def without_unit(network, layer, unit):
    """The network without a unit, and without the members for it."""
    units = network.layers[layer]
    begin = place_of(network, layer) + unit
    return changed_behind(network, layer, units[:unit] + units[unit + 1:], begin, begin + 1, ())


def with_row(network, layer, unit, row):
    """The network with another row for a unit."""
    units = network.layers[layer]
    others = units[:unit] + (row,) + units[unit + 1:]
    return Network(network.inputs, network.layers[:layer] + (others,) + network.layers[layer + 1:], network.last)


def is_still_right(one, other, answer):
    """Whether an answer of `alike_or_point` that was told is right for two networks."""
    if one.inputs != other.inputs:
        return False
    if answer[0] == "point":
        return len(answer[1]) == one.inputs and are_unlike_at(one, other, answer[1])
    return is_alike_or_point(one, other, answer)


class Bench:
    """Networks under names."""

    def __init__(self):
        self.places = [Place({}, {})]
        self.at = 0

    @property
    def names(self):
        """The names, ascending."""
        return tuple(sorted(self.places[self.at].networks))

    def __contains__(self, name):
        return isinstance(name, str) and name in self.places[self.at].networks

    def __len__(self):
        return len(self.places[self.at].networks)

    def __eq__(self, value):
        return isinstance(value, Bench) and self.places[self.at].networks == value.places[value.at].networks

    def __str__(self):
        return f"bench of {len(self.places[self.at].networks)} networks, {self.at} edits"

    def need_name(self, name):
        """The network under a name; refuses what is no name of one."""
        if not isinstance(name, str) or name not in self.places[self.at].networks:
            raise UnknownName(name)
        return self.places[self.at].networks[name]

    def need_layer(self, name, layer):
        """The network under a name; refuses what is no name, or no index of a layer."""
        network = self.need_name(name)
        need_index(layer, network.depth)
        return network

    def need_unit(self, name, layer, unit):
        """The same, and refuses what is no index of a unit of the layer."""
        network = self.need_layer(name, layer)
        need_index(unit, len(network.layers[layer]))
        return network

    def lead_on(self, networks, answers):
        """Leads to a new place, and ends what could be redone."""
        self.places = self.places[:self.at + 1] + [Place(networks, answers)]
        self.at += 1

    def keep(self, name, network):
        """Leads to a new place with this network under the name; answers stay."""
        old = self.places[self.at]
        answers = {pair: old.answers[pair] for pair in old.answers}
        self.lead_on({**old.networks, name: network}, answers)

    def put(self, name, network):
        """Puts the network under the name."""
        if not is_name(name):
            raise InvalidText("a name has 1 to 8 letters")
        need_network(network)
        networks = self.places[self.at].networks
        if name not in networks and len(networks) == MOST_NETWORKS:
            raise TooMany(MOST_NETWORKS)
        self.keep(name, network)

    def drop(self, name):
        """Leaves out the name, with its network and its answers."""
        self.need_name(name)
        old = self.places[self.at]
        networks = {word: old.networks[word] for word in old.networks if word != name}
        answers = {pair: old.answers[pair] for pair in old.answers if name not in pair}
        self.lead_on(networks, answers)

    def unit(self, name, layer, row):
        """Puts a unit more to the end of a layer."""
        network = self.need_layer(name, layer)
        need_row(row, place_of(network, layer))
        if len(network.layers[layer]) == MOST_IN_LAYER:
            raise TooMany(MOST_IN_LAYER)
        if len(network.units) == MOST_UNITS:
            raise TooMany(MOST_UNITS)
        self.keep(name, with_unit(network, layer, row))

    def turn(self, name, layer, unit, row):
        """Gives a unit another row."""
        network = self.need_unit(name, layer, unit)
        need_row(row, place_of(network, layer))
        self.keep(name, with_row(network, layer, unit, row))

    def last_row(self, name, row):
        """Gives a network another last row."""
        network = self.need_name(name)
        need_row(row, len(network.last))
        self.keep(name, Network(network.inputs, network.layers, row))

    def leave(self, name, layer, unit):
        """Leaves a unit out."""
        network = self.need_unit(name, layer, unit)
        if len(network.layers[layer]) == 1:
            raise InvalidOperation("the only unit of a layer cannot be left out")
        self.keep(name, without_unit(network, layer, unit))

    def put_in(self, name, puts):
        """Puts forms of new inputs in for the inputs of a network."""
        self.keep(name, put_network(self.need_name(name), puts))

    def undo(self):
        """Leads back to the place ahead."""
        if self.at == 0:
            raise NothingToUndo(1)
        self.at -= 1

    def redo(self):
        """Leads on again to the place that was left."""
        if self.at == len(self.places) - 1:
            raise NothingToUndo(-1)
        self.at += 1

    def network_of(self, name):
        """The network under the name."""
        return self.need_name(name)

    def ask(self, name, other):
        """The kept answer, if it is right, or a new one, which is kept."""
        answer = self.known(name, other)
        if answer is None:
            answer = alike_or_point(self.need_name(name), self.need_name(other))
            self.places[self.at].answers[(name, other)] = answer
        return answer

    def known(self, name, other):
        """The kept answer, None if there is none that is right."""
        one, two = self.need_name(name), self.need_name(other)
        answer = self.places[self.at].answers.get((name, other))
        return answer if answer is not None and is_still_right(one, two, answer) else None
