"""The reading of a network by rules, unit by unit."""

from rampworks.base.linear import content_of, difference_of, sum_of, times
from rampworks.hull.cuts import join_cut, sum_cut
from rampworks.net.networks import unit_row


def shape_of(lot):
    """The pair (shape, number): the lot is the shape, from the point 0 on, times the number, but for a move."""
    leads = [difference_of(point, lot[0]) for point in lot]
    number = content_of([content_of(lead) for lead in leads])
    return tuple([tuple([x // number for x in lead]) for lead in leads]), number


def mixed_lot(parts, length, most):
    """The corners of the sum of lots, each times a number above 0; None if they are more than `most`."""
    place, shapes = (0,) * length, {}
    for number, lot in parts:
        place = sum_of(place, times(lot[0], number))
        if len(lot) > 1:
            shape, size = shape_of(lot)
            shapes[shape] = shapes.get(shape, 0) + number * size
    total = (place,)
    for shape in shapes:
        total = sum_cut(total, tuple([times(point, shapes[shape]) for point in shape]), most)
        if len(total) > most:
            return None
    return total


def row_told(row, told, length, most):
    """The pair of lots that a row over parts with readings tells, or None if one of them has too many corners."""
    above, below = [], []
    for number, (high, low) in zip(row, told):
        if number > 0:
            above.append((number, high))
            below.append((number, low))
        elif number < 0:
            above.append((-number, low))
            below.append((-number, high))
    left = mixed_lot(above, length, most)
    right = None if left is None else mixed_lot(below, length, most)
    return None if right is None else (left, right)


def lots_of(network, most):
    """The reading of a network, None if one of the lots on the way has more corners than `most`."""
    length = network.inputs
    told = [((unit_row(at, length),), ((0,) * length,)) for at in range(length)]
    for unit in network.units:
        lots = row_told(unit, told, length, most)
        if lots is None:
            return None
        above = join_cut(lots[0], lots[1], most)
        if len(above) > most:
            return None
        told = told + [(above, lots[1])]
    return row_told(network.last, told, length, most)
