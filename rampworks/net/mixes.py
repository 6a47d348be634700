"""The reading of a network by rules, unit by unit."""

from rampworks.base.linear import sum_of, times
from rampworks.hull.borders import plane_total
from rampworks.hull.cuts import guided_join
from rampworks.hull.totals import guided_total, shape_of
from rampworks.net.networks import unit_row


def mixed_lot(parts, place, most):
    """The sum of a place and of lots with guides, each times a number above 0.

    None if it has more corners than `most`.
    """
    if not parts:
        return {place: None}
    if len(place) == 1:
        low = place[0] + sum([number * min(lot)[0] for number, lot in parts])
        high = place[0] + sum([number * max(lot)[0] for number, lot in parts])
        return {(low,): None, (high,): None}
    if len(place) == 2:
        tips = plane_total([(1, (place,))] + [(number, tuple(lot)) for number, lot in parts])
        return None if len(tips) > most else {tip: None for tip in tips}
    total = guided_total(lots_to_add(parts, place), most, True)
    return None if len(total) > most else total


def lots_to_add(parts, place):
    """Few lots with guides that have the same sum: those of one shape as one."""
    shapes, guides = {}, {}
    for number, lot in parts:
        points = tuple(lot)
        place = sum_of(place, times(points[0], number))
        if len(points) > 1:
            shape, size = shape_of(lot)
            shapes[shape] = shapes.get(shape, 0) + number * size
            guides[shape] = [lot[point] for point in points]
    grown = [{times(point, shapes[shape]): form for point, form in zip(shape, guides[shape])} for shape in shapes]
    return [{place: None}] + sorted(grown, key=len)


def split_row(row, told):
    """What is summed up for both sides of a row over parts with two sides: pairs of a number above 0 and a side."""
    above, below = [], []
    for number, (high, low) in zip(row, told):
        if number > 0:
            above.append((number, high))
            below.append((number, low))
        elif number < 0:
            above.append((-number, low))
            below.append((-number, high))
    return above, below


def parted_row(row):
    """Two rows with no member below 0, of which the first one less the second one is the row."""
    return tuple([x if x > 0 else 0 for x in row]), tuple([-x if x < 0 else 0 for x in row])


def row_told(row, told, length, most):
    """The pair of lots that a row over the inputs, and over parts with readings behind these, tells.

    None if one of them has too many corners.
    """
    place, beside = parted_row(row[:length])
    above, below = split_row(row[length:], told[length:])
    left = mixed_lot(above, place, most)
    right = None if left is None else mixed_lot(below, beside, most)
    return None if right is None else (left, right)


def ramp_told(lots, most):
    """The pair of lots of a unit whose row tells a pair of lots: their join, and the second one; None as above."""
    above = guided_join(lots[0], lots[1], most)
    return None if len(above) > most else (above, lots[1])


def unit_told(unit, told, length, most):
    """The same of a unit over inputs and parts with readings."""
    if len(unit) == length:
        one, other = parted_row(unit)
        above = {one: None, other: None} if one < other else {other: None, one: None}
        return above, {other: None}
    lots = row_told(unit, told, length, most)
    return None if lots is None else ramp_told(lots, most)


def inputs_told(length):
    """The pairs of lots of the inputs."""
    return [({unit_row(at, length): None}, {(0,) * length: None}) for at in range(length)]


def parts_told(network, most):
    """The pairs of lots of the inputs and of all units, and behind them that of the last row.

    None if one of the lots on the way has more corners than `most`.
    """
    length = network.inputs
    told = inputs_told(length)
    for unit in network.units:
        lots = unit_told(unit, told, length, most)
        if lots is None:
            return None
        told.append(lots)
    lots = row_told(network.last, told, length, most)
    return None if lots is None else [*told, lots]


def plain_lots(lots):
    """A pair of lots with guides, without these."""
    return tuple(lots[0]), tuple(lots[1])


def lots_of(network, most):
    """The reading of a network, None if one of the lots on the way has more corners than `most`."""
    told = parts_told(network, most)
    return None if told is None else plain_lots(told[-1])


def lots_without(network, told, place, most):
    """The reading of the network with 0 in place of all members for the part at the place, of which all are told.

    None if one of its lots on the way has more corners than `most`.
    """
    length, found = network.inputs, list(told[:place + 1])
    changed = {place: True}
    for at, row in enumerate([*network.units, network.last]):
        index = length + at
        if index <= place:
            continue
        if not any([row[k] != 0 for k in changed if k < len(row)]):
            found.append(told[index])
            continue
        left = [0 if k == place else x for k, x in enumerate(row)]
        is_last = index == len(told) - 1
        lots = row_told(left, found, length, most) if is_last else unit_told(left, found, length, most)
        if lots is None:
            return None
        changed[index] = True
        found.append(lots)
    return plain_lots(found[-1])
