"""Forms of new inputs, put in for the inputs of lots, readings and networks: what they lead to, and what they bar."""

from rampworks.base.checks import are_short_rows, is_short
from rampworks.base.linear import mixture, product_of, tells
from rampworks.errors import InvalidNumber, InvalidOperation, InvalidRow, TooMany
from rampworks.hull.corners import MOST_MEMBERS, need_lot, need_point_row
from rampworks.hull.cuts import cut
from rampworks.hull.simplices import volume_of
from rampworks.net.networks import bounded, need_network
from rampworks.net.readings import MOST_READ, need_reading

MOST_WIDE = 4


def need_puts(puts):
    """Refuses what are no puts."""
    if not are_short_rows(puts, MOST_MEMBERS, MOST_MEMBERS):
        raise InvalidRow("puts are 1 to 8 rows of one length")


def need_puts_for(puts, many):
    """Refuses what are no puts for so many inputs."""
    need_puts(puts)
    if len(puts) != many:
        raise InvalidOperation("puts are as many as there are inputs")


def need_layers(layers):
    """Refuses what is no number of layers that puts can bar."""
    if not is_short(layers) or not 0 <= layers <= 2:
        raise InvalidNumber(layers)


def led(row, puts):
    """The sum of the puts, each times the member of the row for its input."""
    return mixture(row, puts, len(puts[0]))


def led_points(points, puts):
    """The ascending tuple of the led points."""
    lines = [tells(form, points) for form in zip(*puts)]
    return tuple(sorted(set(list(zip(*lines)))))


def led_cut(lot, puts, most):
    """The corners of the led points; if there are more than `most`, more than these."""
    return cut(led_points(lot, puts), most)


def led_row(row, puts):
    """The row, led by the puts."""
    need_point_row(row)
    need_puts_for(puts, len(row))
    return led(row, puts)


def led_lot(lot, puts):
    """The cut lot of the led points."""
    need_lot(lot)
    need_puts_for(puts, len(lot[0]))
    return led_cut(lot, puts, len(lot))


def led_reading(reading, puts):
    """The pair of both led lots."""
    need_reading(reading)
    above, below = reading
    need_puts_for(puts, len(above[0]))
    return led_cut(above, puts, len(above)), led_cut(below, puts, len(below))


def put_network(network, puts):
    """The network with the puts for its inputs."""
    need_network(network)
    many = network.inputs
    need_puts_for(puts, many)
    layers = [tuple([led(unit[:many], puts) + unit[many:] for unit in layer]) for layer in network.layers]
    return bounded(len(puts[0]), tuple(layers), led(network.last[:many], puts) + network.last[many:])


def both_puts(puts, further):
    """The puts that tell the same as the one ones, with the other ones put in their new inputs."""
    need_puts(puts)
    need_puts_for(further, len(puts[0]))
    return tuple([led(row, further) for row in puts])


def few_tips(tips):
    """Gives corners back, but refuses too many."""
    if len(tips) > MOST_READ:
        raise TooMany(MOST_READ)
    return tips


def is_barring(reading, layers, puts):
    """Whether the puts show that no network with so many layers tells the function of the reading."""
    need_reading(reading)
    need_layers(layers)
    need_puts_for(puts, len(reading[0][0]))
    lots = []
    for lot in reading:
        lots.append(few_tips(led_cut(lot, puts, MOST_READ)))
    if len(puts[0]) != 1 << layers:
        return False
    return sum([volume_of(tips) for tips in lots]) % 2 == 1


def axis_row(at, sign, length):
    """The row with the sign at its place, and 0 else."""
    return tuple([sign if k == at else 0 for k in range(length)])


def first_choices(many, length):
    """The ascending choices of which no other one is ahead that only exchanges or turns new inputs.

    All of the new inputs are put for some input; exchanged and turned ones bar alike. The first row of each new input
    has -1, and new inputs come in their sequence.
    """
    found = [((), 0)]
    for _ in range(many):
        longer = []
        for rows, used in found:
            for at in range(used):
                longer.append(((*rows, axis_row(at, -1, length)), used))
                longer.append(((*rows, axis_row(at, 1, length)), used))
            longer.append(((*rows, (0,) * length), used))
            if used < length:
                longer.append(((*rows, axis_row(used, -1, length)), used + 1))
        found = longer
    return sorted([rows for rows, used in found if used == length])


def barring_choice(reading, layers):
    """The first choice that bars so many layers, None if none does."""
    need_reading(reading)
    need_layers(layers)
    many, length = len(reading[0][0]), 1 << layers
    if many > MOST_WIDE:
        raise InvalidOperation("choices are told for at most four inputs")
    lots = []
    for lot in reading:
        lots.append(few_tips(cut(lot, MOST_READ)))
    choices = first_choices(many, length) if many > length else []
    if many == length:
        # Others have the determinant 0, 1 or -1.
        choices = [tuple([axis_row(at, -1, length) for at in range(length)])]
    for puts in choices:
        if sum([volume_of(led_points(tips, puts)) for tips in lots]) % 2 == 1:
            return puts
    return None


def need_bend_places(places, length):
    """Refuses what are no two places of a plane, told as a row across it and two rows in it."""
    if not are_short_rows(places, 3, length) or len(places) != 3 or len(places[0]) != length:
        raise InvalidOperation("places are three rows of the length of the reading")
    across, one, other = places
    if product_of(across, one) != 0 or product_of(across, other) != 0 or not any(across):
        raise InvalidOperation("places are in the plane of a row other than 0")


def three_puts(reading, places):
    """The puts that make of three new inputs the sum of both rows in the plane, and of the one across it."""
    need_reading(reading)
    need_bend_places(places, len(reading[0][0]))
    across, one, other = places
    return tuple(list(zip(one, other, across)))
