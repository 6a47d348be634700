"""How lots grow layer by layer, and which layers are barred by odd volumes."""

from rampworks.base.checks import BENEATH, BEYOND, is_told, is_whole, is_whole_row
from rampworks.base.linear import times
from rampworks.errors import InvalidGrowth, InvalidOperation, TooMany
from rampworks.hull.corners import MOST_MEMBERS
from rampworks.hull.cuts import cut, join_cut
from rampworks.hull.simplices import volume_of
from rampworks.net.mixes import mixed_lot, split_row
from rampworks.net.networks import need_network, unit_row
from rampworks.net.readings import MOST_READ, need_lots_of, need_reading

MOST_WORDS = 400
MOST_DEEP = 16
MOST_IN_SUM = 200
# How many layers are barred for so many inputs.
BARRED = {1: 0, 2: 1, 4: 2}


def parts_of(value):
    """The growths directly in a value, as it should have them; None if it is none by its word and its members."""
    if is_told(value, "point", 2):
        row = value[1]
        return [] if isinstance(row, tuple) and 1 <= len(row) <= MOST_MEMBERS and is_whole_row(row, len(row)) else None
    if is_told(value, "times", 3):
        return [value[2]] if is_whole(value[1]) and value[1] >= 1 else None
    if is_told(value, "sum", 2):
        parts = value[1]
        return list(parts) if isinstance(parts, tuple) and 1 <= len(parts) <= MOST_IN_SUM else None
    if is_told(value, "join", 3):
        return [value[1], value[2]]
    return None


def words_of(value):
    """All growths in a value, with integers of any length, each behind what it is in; None if it is no growth."""
    found, left, lengths = [], [(value, 1)], []
    while left:
        growth, deep = left.pop()
        parts = parts_of(growth)
        if parts is None or deep > MOST_DEEP or len(found) + len(left) >= MOST_WORDS:
            return None
        if not parts:
            lengths.append(len(growth[1]))
            if lengths[-1] != lengths[0]:
                return None
        found.append(growth)
        left.extend([(part, deep + 1) for part in parts])
    return found


def need_growth(growth):
    """Refuses what is no growth that can be passed."""
    words = words_of(growth)
    if words is None:
        raise InvalidGrowth("this is no growth")
    for word in words:
        numbers = word[1] if word[0] == "point" else [word[1]] if word[0] == "times" else []
        if not all([BENEATH < x < BEYOND for x in numbers]):
            raise InvalidGrowth("integers have at most sixty digits")


def level_in(growth):
    """The level of a growth."""
    if growth[0] == "point":
        return 0
    if growth[0] == "times":
        return level_in(growth[2])
    if growth[0] == "sum":
        return max([level_in(part) for part in growth[1]])
    return 1 + max(level_in(growth[1]), level_in(growth[2]))


def sum_grown(parts, most):
    """The sum of the lots that some growths grow; None as of `lot_grown`."""
    lots = []
    for part in parts:
        lot = lot_grown(part, most)
        if lot is None:
            return None
        lots.append((1, {point: None for point in lot}))
    total = mixed_lot(lots, (0,) * len(lot[0]), most)
    return None if total is None else tuple(total)


def lot_grown(growth, most):
    """The corners of the lot that is grown; None if some growth in it grows more than `most`."""
    if growth[0] == "point":
        return (growth[1],)
    if growth[0] == "times":
        lot = lot_grown(growth[2], most)
        return None if lot is None else tuple([times(point, growth[1]) for point in lot])
    if growth[0] == "sum":
        return sum_grown(growth[1], most)
    one = lot_grown(growth[1], most)
    other = None if one is None else lot_grown(growth[2], most)
    if other is None:
        return None
    lot = join_cut(one, other, most)
    return None if len(lot) > most else lot


def is_growth(value):
    """Whether the value is a growth."""
    return words_of(value) is not None


def level_of(growth):
    """The level of the growth."""
    need_growth(growth)
    return level_in(growth)


def grown(growth):
    """The lot that the growth grows, cut."""
    need_growth(growth)
    lot = lot_grown(growth, MOST_READ)
    if lot is None:
        raise TooMany(MOST_READ)
    return lot


def growth_of_parts(parts):
    """The pair (growth, words) of parts (number, (growth, words)) of a row over the point, if there are none."""
    grown_parts, words = [], 0
    for number, (growth, many) in parts:
        grown_parts.append(growth if number == 1 else ("times", number, growth))
        words += many if number == 1 else many + 1
    if len(grown_parts) == 1:
        return grown_parts[0], words
    return ("sum", tuple(grown_parts)), words + 1


def row_grown(row, told, length):
    """The growths of both lots of a row, each with the number of its words."""
    above, below = split_row(row, told)
    if not above:
        zeros = (("point", (0,) * length), 1)
        return zeros, zeros
    return growth_of_parts(above), growth_of_parts(below)


def growths_of(network):
    """The growths of both lots of the network's reading."""
    need_network(network)
    length = network.inputs
    zeros = (("point", (0,) * length), 1)
    told = [((("point", unit_row(at, length)), 1), zeros) for at in range(length)]
    for unit in network.units:
        (above, many), (below, less) = row_grown(unit, told, length)
        told.append(((("join", above, below), many + less + 1), (below, less)))
    (above, many), (below, less) = row_grown(network.last, told, length)
    if many > MOST_WORDS or less > MOST_WORDS:
        raise TooMany(MOST_WORDS)
    return above, below


def are_growths(network, value):
    """Whether the value is a pair of growths of both lots of the network's reading, of no level above its depth."""
    reading = need_lots_of(network)
    if not isinstance(value, tuple) or len(value) != 2 or not is_growth(value[0]) or not is_growth(value[1]):
        return False
    for growth, lot in zip(value, reading):
        if level_in(growth) > network.depth or lot_grown(growth, MOST_READ) != lot:
            return False
    return True


def parity(reading):
    """Whether the volumes of both lots together are odd: 1, or even: 0."""
    need_reading(reading)
    if len(reading[0][0]) not in BARRED:
        raise InvalidOperation("a parity is told for one, two or four members")
    lots = []
    for lot in reading:
        tips = cut(lot, MOST_READ)
        if len(tips) > MOST_READ:
            raise TooMany(MOST_READ)
        lots.append(tips)
    return sum([volume_of(tips) for tips in lots]) % 2


def barred(reading):
    """How many layers are barred for the function of the reading, None if none are."""
    return BARRED[len(reading[0][0])] if parity(reading) == 1 else None
