"""Lots, readings and networks as texts, and read back from these."""

from rampworks.errors import InvalidText, ParseError
from rampworks.hull.corners import MOST_MEMBERS, MOST_POINTS, need_lot
from rampworks.net.networks import MOST_IN_LAYER, MOST_INPUTS, MOST_LAYERS, MOST_UNITS, Network, need_network
from rampworks.net.readings import need_reading

MOST_TEXT = 1200000
MOST_DIGITS = 60
BLANKS = "  "
HEAD = "network "


def row_line(row):
    """The line of a row."""
    return BLANKS + " ".join([str(x) for x in row])


def text_of(lines):
    """The lines, each with a newline behind it."""
    return "\n".join(lines) + "\n"


def lot_text(lot):
    """The text of the lot."""
    need_lot(lot)
    return text_of(["lot"] + [row_line(point) for point in lot] + ["end"])


def reading_text(reading):
    """The text of the reading."""
    need_reading(reading)
    above, below = reading
    lines = [row_line(point) for point in above] + ["below"] + [row_line(point) for point in below]
    return text_of(["reading", "above"] + lines + ["end"])


def network_text(network):
    """The text of the network."""
    need_network(network)
    lines = [HEAD + str(network.inputs)]
    for layer in network.layers:
        lines.append("layer")
        lines.extend([row_line(unit) for unit in layer])
    return text_of(lines + ["last", row_line(network.last), "end"])


class Lines:
    """The lines of a text, which are read one behind the other.

    What stands behind the last newline, perhaps nothing, is no line: it can stand nowhere.
    """

    def __init__(self, text):
        self.lines = text.split("\n")
        self.at = 0

    def line(self):
        """The next line, which is due; without one the text is refused here."""
        if self.at >= len(self.lines) - 1:
            raise ParseError(self.at)
        return self.lines[self.at]

    def row(self, least, most):
        """The row of the next line, None if it is none with so many members."""
        return row_in(self.line(), least, most)

    def go_on(self):
        """Leaves the line behind."""
        self.at += 1

    def word(self, word):
        """Reads a line that has to be the word."""
        if self.line() != word:
            raise ParseError(self.at)
        self.go_on()

    def close(self):
        """Refuses what stands behind the last line."""
        if self.at < len(self.lines) - 1 or self.lines[-1] != "":
            raise ParseError(self.at)


def whole_in(word):
    """The integer that is written so, None if it is none."""
    digits = word[1:] if word.startswith("-") else word
    if not digits.isdigit() or len(digits) > MOST_DIGITS or digits.startswith("0") and word != "0":
        return None
    return int(word)


def row_in(line, least, most):
    """The row of so many members that is written so, None if it is none."""
    if not line.startswith(BLANKS):
        return None
    words = line[len(BLANKS):].split(" ")
    if not least <= len(words) <= most:
        return None
    row = [whole_in(word) for word in words]
    return None if None in row else tuple(row)


def need_text(text):
    """Refuses what is no string of printable ASCII characters and newlines, or too long a one."""
    if not isinstance(text, str) or len(text) > MOST_TEXT:
        raise InvalidText("a text is a string of at most 1200000 characters")
    if not text.isascii() or not text.replace("\n", "").isprintable():
        raise InvalidText("a text has printable ASCII characters and newlines")


def points_in(lines, length, word):
    """The points up to a word, which is read, too; they have this length, or, for None, that of the first one."""
    found = []
    while lines.line() != word or not found:
        row = lines.row(1, MOST_MEMBERS) if length is None else lines.row(length, length)
        if row is None or len(found) == MOST_POINTS or found and row <= found[-1]:
            raise ParseError(lines.at)
        length = len(row)
        found.append(row)
        lines.go_on()
    lines.go_on()
    return tuple(found)


def read_lot(text):
    """The lot that has the text."""
    need_text(text)
    lines = Lines(text)
    lines.word("lot")
    lot = points_in(lines, None, "end")
    lines.close()
    return lot


def read_reading(text):
    """The reading that has the text."""
    need_text(text)
    lines = Lines(text)
    lines.word("reading")
    lines.word("above")
    above = points_in(lines, None, "below")
    below = points_in(lines, len(above[0]), "end")
    lines.close()
    return above, below


def inputs_in(lines):
    """The number of inputs of the first line of a network."""
    line = lines.line()
    inputs = whole_in(line[len(HEAD):]) if line.startswith(HEAD) else None
    if inputs is None or not 1 <= inputs <= MOST_INPUTS:
        raise ParseError(lines.at)
    lines.go_on()
    return inputs


def need_unit(lines, width):
    """The row of a line that has to be one with so many members."""
    row = lines.row(width, width)
    if row is None:
        raise ParseError(lines.at)
    lines.go_on()
    return row


def layer_in(lines, width, most):
    """The units of a layer, at most so many; the line behind them is not read."""
    found = []
    while not found or lines.line().startswith(BLANKS):
        if len(found) == most:
            raise ParseError(lines.at)
        found.append(need_unit(lines, width))
    return tuple(found)


def read_network(text):
    """The network that has the text."""
    need_text(text)
    lines = Lines(text)
    inputs = inputs_in(lines)
    layers, units = [], 0
    while lines.line() == "layer" and len(layers) < MOST_LAYERS:
        lines.go_on()
        layer = layer_in(lines, inputs + units, min(MOST_IN_LAYER, MOST_UNITS - units))
        layers.append(layer)
        units += len(layer)
    lines.word("last")
    last = need_unit(lines, inputs + units)
    lines.word("end")
    lines.close()
    return Network(inputs, tuple(layers), last)
