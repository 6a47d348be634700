"""Stage 6: readings."""

from itertools import product

from tests.helpers import ODD_VALUES, SIXTY, Case, dot, lot_of, moments, plus, random_lot, random_row, scale, value
from tests.test_corners import BAD_LOTS
from tests.test_networks import BAD_NETWORKS, BAD_NUMBERS, LAMP, random_network, zeros

from rampworks.errors import (
    InvalidNetwork, InvalidNumber, InvalidOperation, InvalidReading, InvalidRow, TooMany)
from rampworks.hull.corners import corners, is_lot
from rampworks.hull.sums import joined, scaled, summed
from rampworks.net import readings as told
from rampworks.net.networks import (
    Network, added, form_network, greater, multiplied, ramped, trimmed, value_of)
from rampworks.net.readings import (
    added_reading, do_agree, greater_reading, is_network_of, is_reading, is_reading_of, multiplied_reading, network_of,
    ramped_reading, reading_of, reading_of_form, value_at_reading)

TRIANGLE, SQUARE = ((0, 0), (0, 1), (1, 0)), ((0, 0), (0, 1), (1, 0), (1, 1))
STICK, POINT = ((0, 0), (1, 1)), ((0, 0),)
GREATER = greater(form_network((1, 0)), form_network((0, 1)))
BAD_READINGS = ODD_VALUES + (
    TRIANGLE, (TRIANGLE,), [TRIANGLE, POINT], (TRIANGLE, POINT, POINT), (TRIANGLE, ((0,),)), (TRIANGLE, None),
    (None, POINT), (list(TRIANGLE), POINT), LAMP, ((), POINT)) + tuple(
        (lot, POINT) for lot in BAD_LOTS) + tuple((POINT, lot) for lot in BAD_LOTS)


def tells(reading, row):
    return value(reading[0], row) - value(reading[1], row)


def by_rules(network):
    """The reading by the words of [6.1], with all points, cut at the end of each step."""
    length = network.inputs
    parts = [((tuple(int(k == at) for k in range(length)),), ((0,) * length,)) for at in range(length)]

    def row_of(row):
        lots = [((0,) * length,), ((0,) * length,)]
        for number, part in zip(row, parts, strict=True):
            for side in (0, 1):
                if number != 0:
                    lot = part[side if number > 0 else 1 - side]
                    lots[side] = cut_sum(lots[side], [scale(point, abs(number)) for point in lot])
        return lots
    for unit in network.units:
        above, below = row_of(unit + (0,) * (len(parts) - len(unit)))
        parts.append((corners(lot_of(above + below)), below))
    return tuple(row_of(network.last))


def cut_sum(one, other):
    return corners(lot_of(plus(left, right) for left in one for right in other))


def random_reading(source, length, many, size):
    return tuple(random_lot(source, source.randint(1, many), length, size) for _ in range(2))


def square_network(inputs, units):
    """A network of one layer whose reading has 2 ** units corners above: sticks along unlike axes."""
    layer = tuple(tuple(int(k == at) for k in range(inputs)) for at in range(units))
    return Network(inputs, (layer,), (0,) * inputs + (1,) * units)


class Readings(Case):

    def test_which_values_are_readings(self):
        for reading in ((TRIANGLE, POINT), (POINT, POINT), (((0,),), ((1,), (5,))), (((0,) * 8,), ((1,) * 8,)),
                        (((SIXTY,),), ((-SIXTY,),)), (moments(400, 2), moments(400, 2))):
            self.told(True, is_reading(reading))
        for reading in BAD_READINGS:
            self.told(False, is_reading(reading))

    def test_values(self):
        for _ in range(60):
            length = self.source.randint(1, 8)
            reading = random_reading(self.source, length, 8, self.source.choice((3, SIXTY)))
            row = random_row(self.source, length, self.source.choice((3, SIXTY)))
            self.told(tells(reading, row), value_at_reading(reading, row))

    def test_constant(self):
        self.told(60, told.MOST_READ)


class ByRules(Case):

    def test_right_by_rules_and_values(self):
        full = 0
        for _ in range(150):
            inputs = self.source.randint(1, 4)
            widths = [self.source.randint(1, 2) for _ in range(self.source.randint(0, 3))]
            network = random_network(self.source, inputs, widths, 3, self.source.choice((0.1, 0.5)))
            try:
                reading = reading_of(network)
            except TooMany:
                continue
            full += len(reading[0]) > 1 and len(reading[1]) > 1
            self.told(by_rules(network), reading)
            self.told(reading, tuple(corners(lot) for lot in reading))
            for _ in range(6):
                row = random_row(self.source, inputs, 9)
                self.told(value_of(network, row), value_at_reading(reading, row))
            self.told(True, is_reading_of(network, reading))
        self.assertGreater(full, 40)

    def test_known(self):
        self.told((((2, 0),), ((0, 1),)), reading_of(form_network((2, -1))))
        self.told((((0, 0),), ((0, 0),)), reading_of(form_network((0, 0))))
        self.told((((0, 2), (1, 1)), ((0, 1),)), reading_of(GREATER))
        self.told((((0,), (3,)), ((0,),)), reading_of(Network(1, (((3,),),), (0, 1))))
        self.told((((3,),), ((0,), (3,))), reading_of(Network(1, (((-3,),),), (0, -1))))
        self.told((((0,),), ((0,),)), reading_of(zeros(1, (64, 64))))

    def test_units_off_everywhere_and_weights_zero(self):
        off = Network(1, (((1,),), ((-1, 0), (0, -1))), (1, 0, 0, 5))
        for row in ((-4,), (0,), (7,)):
            self.told(value_of(off, row), value_at_reading(reading_of(off), row))
        self.told(by_rules(off), reading_of(off))
        self.told(reading_of(off), reading_of(trimmed(off)))

    def test_corners_in_each_number(self):
        self.told(tuple(product((0, 1), repeat=5)), reading_of(square_network(5, 5))[0])
        self.fails(TooMany, reading_of, square_network(6, 6), limit=60)

    def test_sixty_and_more(self):
        def polygon(many):
            rows = tuple((1, k) for k in range(many))
            return Network(2, (rows,), (0, 0) + (1,) * many)
        self.told(60, len(reading_of(polygon(30))[0]))
        self.fails(TooMany, reading_of, polygon(31), limit=60)
        # Below the bound in each unit, but not in the last row's Q.
        network = polygon(31)
        self.fails(TooMany, reading_of, multiplied(network, -1), limit=60)
        self.told(2, len(reading_of(Network(2, network.layers, (0, 0, 1) + (0,) * 30))[0]))

    def test_refused_for_a_unit_that_does_not_matter(self):
        rows = tuple((1, k) for k in range(31))
        network = Network(2, (rows, ((0, 0) + (1,) * 31,)), (1, 1) + (0,) * 32)
        self.fails(TooMany, reading_of, network, limit=60)
        self.told((((1, 1),), ((0, 0),)), reading_of(trimmed(network)))

    def test_join_too_great(self):
        # Of the last unit's row P lies over the one polygon, Q over the other one, a step apart.
        def steps(many):
            one, other = (tuple((1, first + k, 0) for k in range(many)) for first in (0, 100))
            unit = (0, 0, 1) + (1,) * many + (-1,) * many
            return Network(3, (one + other, (unit,)), (0,) * (3 + 2 * many) + (1,))
        self.told((60, 30), tuple(len(lot) for lot in reading_of(steps(15))))
        self.fails(TooMany, reading_of, steps(16), limit=60)

    def test_greatest_networks(self):
        for inputs, widths in ((1, (32, 32, 32, 32)), (1, (64, 64)), (1, (1, 1, 1, 1))):
            network = random_network(self.source, inputs, widths, SIXTY)
            reading = reading_of(network)
            for row in ((-1,), (0,), (1,), (SIXTY,), (-SIXTY,)):
                self.told(value_of(network, row), tells(reading, row))
        layer = tuple(tuple(int(k == at % 5) for k in range(8)) for at in range(64))
        network = Network(8, (layer, tuple((0,) * 8 + (1,) * 64 for _ in range(64))), (1,) * 8 + (2,) * 64 + (3,) * 64)
        reading = reading_of(network)
        self.told(32, len(reading[0]))
        row = random_row(self.source, 8, 9)
        self.told(value_of(network, row), tells(reading, row))

    def test_long_weights_through_four_layers(self):
        network = random_network(self.source, 3, (1, 1, 1, 1), SIXTY)
        reading = reading_of(network)
        for _ in range(5):
            row = random_row(self.source, 3, SIXTY)
            self.told(value_of(network, row), tells(reading, row))
        self.told(False, is_reading_of(network, reading) and not is_reading(reading))


class Together(Case):

    def two(self, size=3):
        length = self.source.randint(1, 4)
        return [random_reading(self.source, length, 5, size) for _ in range(2)]

    def test_by_values(self):
        for _ in range(80):
            one, other = self.two()
            length = len(one[0][0])
            form = random_row(self.source, length, 9)
            number = self.source.choice((0, 1, -1, 4, -SIXTY))
            results = (
                added_reading(one, other), greater_reading(one, other), ramped_reading(one),
                multiplied_reading(one, number), reading_of_form(form))
            for reading in results:
                self.told(reading, tuple(corners(lot) if is_lot(lot) else lot for lot in reading))
            for _ in range(5):
                x = random_row(self.source, length, 9)
                left, right = tells(one, x), tells(other, x)
                self.told((left + right, max(left, right), max(0, left), number * left, dot(form, x)),
                          tuple(tells(reading, x) for reading in results))

    def test_by_lots(self):
        for _ in range(40):
            one, other = self.two()
            self.told((summed(one[0], other[0]), summed(one[1], other[1])), added_reading(one, other))
            self.told((joined(*one), corners(one[1])), ramped_reading(one))
            self.told((scaled(one[0], 3), scaled(one[1], 3)), multiplied_reading(one, 3))
            self.told((scaled(one[1], 3), scaled(one[0], 3)), multiplied_reading(one, -3))
            both = joined(summed(one[0], other[1]), summed(other[0], one[1]))
            self.told((both, summed(one[1], other[1])), greater_reading(one, other))
        self.told((((0,),), ((0,),)), multiplied_reading((((1,), (2,)), ((5,),)), 0))

    def test_as_of_networks(self):
        one, other = LAMP, GREATER
        self.told(True, do_agree(reading_of(added(one, other)), added_reading(reading_of(one), reading_of(other))))
        self.told(True, do_agree(reading_of(greater(one, other)), greater_reading(reading_of(one), reading_of(other))))
        self.told(True, do_agree(reading_of(ramped(one)), ramped_reading(reading_of(one))))
        self.told(True, do_agree(reading_of(multiplied(one, -2)), multiplied_reading(reading_of(one), -2)))

    def test_too_many(self):
        wide, other = moments(41, 2), moments(50, 2, 7)
        self.fails(TooMany, added_reading, (wide, POINT), (other, POINT), limit=2000)
        self.fails(TooMany, added_reading, (POINT, wide), (POINT, other), limit=2000)
        # The first sum comes ahead of the second one.
        self.fails(TooMany, added_reading, (moments(3, 2), wide), (moments(400, 2), other), limit=400)
        self.fails(TooMany, added_reading, (wide, moments(3, 2)), (other, moments(400, 2)), limit=2000)
        self.fails(TooMany, ramped_reading, (moments(400, 2), moments(401, 2)[-1:]), limit=400)
        self.told(400, len(ramped_reading((moments(400, 2), moments(400, 2)))[0]))

    def test_too_many_in_the_sequence_of_greater(self):
        wide, other, small, long = moments(41, 2), moments(50, 2, 7), moments(3, 2), moments(400, 2)
        # P + Q', then P' + Q, their join, and Q + Q'.
        self.fails(TooMany, greater_reading, (wide, small), (long, other), limit=2000)
        self.fails(TooMany, greater_reading, (small, wide), (other, long), limit=400)
        self.fails(TooMany, greater_reading, (POINT, wide), (other, POINT), limit=2000)
        self.fails(TooMany, greater_reading, (POINT, small), (long, POINT), limit=400)
        self.fails(TooMany, greater_reading, (moments(400, 2), POINT), (moments(401, 2)[-1:], POINT), limit=400)
        self.fails(TooMany, greater_reading, (POINT, wide), (POINT, other), limit=2000)
        self.fails(TooMany, greater_reading, (POINT, small), (POINT, long), limit=400)

    def test_long_sums_on_the_way(self):
        # Sums have sixty-one digits, and are joined all the same.
        one, other = (((SIXTY, 0),), ((-SIXTY, 0),)), (((0, 0),), ((SIXTY, 0),))
        self.told((((-SIXTY, 0), (2 * SIXTY, 0)), ((0, 0),)), greater_reading(one, other))


class Agreeing(Case):

    def test_moved_and_added(self):
        for _ in range(60):
            length = self.source.randint(1, 5)
            one = random_reading(self.source, length, 4, 3)
            third = random_lot(self.source, 4, length, 3)
            same = (summed(one[0], third), summed(one[1], third))
            self.told(True, do_agree(one, same))
            self.told(True, do_agree(same, one))
            more = (same[0], summed(same[1], (tuple([1] * length),)))
            self.told(False, do_agree(one, more))
            self.told(False, do_agree(more, one))

    def test_by_values(self):
        for _ in range(150):
            length = self.source.randint(1, 2)
            one, other = (random_reading(self.source, length, 3, 1) for _ in range(2))
            rows = list(product(range(-5, 6), repeat=length))
            self.told(all(tells(one, x) == tells(other, x) for x in rows), do_agree(one, other))

    def test_points_within(self):
        self.told(True, do_agree((((0,), (1,), (2,)), ((5,),)), (((0,), (2,)), ((5,),))))
        self.told(True, do_agree((SQUARE, STICK), (SQUARE, STICK)))
        self.told(True, do_agree((SQUARE, SQUARE), (POINT, POINT)))
        self.told(False, do_agree((TRIANGLE, POINT), (POINT, TRIANGLE)))

    def test_bound(self):
        # 2000 pairs, more than 400 corners.
        one = tuple(point + (0, 0, 0) for point in moments(40, 3))
        other = tuple((0, 0, 0) + point for point in moments(50, 3))
        self.told(True, do_agree((one, other), (one, other)))
        self.told(False, do_agree((one, ((0,) * 6,)), (((0,) * 6,), other)))
        self.told(False, do_agree((one, other), (other[:40], one)))
        wide, far = moments(41, 2), moments(50, 2, 7)
        self.fails(TooMany, do_agree, (wide, POINT), (POINT, far), limit=2000)
        self.fails(TooMany, do_agree, (POINT, wide), (far, POINT), limit=2000)
        self.told(False, do_agree((wide, far), (POINT, POINT)))

    def test_many_pairs_that_agree(self):
        one, third = moments(12, 4), moments(14, 4, 2)
        self.told(True, do_agree((summed(one, third), third), (one, ((0,) * 4,))))
        self.told(False, do_agree((summed(one, third)[1:], third), (one, ((0,) * 4,))))


class Judge(Case):

    def test_readings_of_a_network(self):
        reading = reading_of(GREATER)
        for lot in (POINT, STICK, SQUARE, TRIANGLE, ((0, 0), (1, 1), (2, 2))):
            judged = tuple(lot_of(plus(p, q) for p in side for q in lot) for side in reading)
            self.told(True, is_reading_of(GREATER, judged))
            self.told(False, is_reading_of(GREATER, list(judged)))
            self.told(False, is_reading_of(GREATER, judged[::-1]))
            self.told(False, is_reading_of(GREATER, judged + (POINT,)))
        for wrong in BAD_READINGS + ((((0, 1), (1, 0)), ((0, 1),)), (((0,),), ((0,),)), (POINT, POINT)):
            self.told(False, is_reading_of(GREATER, wrong))
        ramp = Network(1, (((1,),),), (0, 1))
        self.told(True, is_reading_of(ramp, (((0,), (1,)), ((0,),))))
        self.told(False, is_reading_of(ramp, (((False,), (True,)), ((0,),))))
        self.told(False, is_reading_of(ramp, (((0,), (2,)), ((0,),))))
        self.told(True, is_reading_of(ramp, (((-SIXTY,), (1 - SIXTY,)), ((-SIXTY,),))))
        self.told(False, is_reading_of(ramp, (((-SIXTY - 1,), (-SIXTY,)), ((-SIXTY - 1,),))))

    def test_sixty_points(self):
        ramp = Network(1, (((1,),),), (0, 59))
        self.told(True, is_reading_of(ramp, (tuple((k,) for k in range(60)), ((0,),))))
        ramp = Network(1, (((1,),),), (0, 60))
        self.told(False, is_reading_of(ramp, (tuple((k,) for k in range(61)), ((0,),))))
        self.told(True, is_reading_of(ramp, (((0,), (60,)), ((0,),))))
        above = ((0,), (60,))
        self.told(True, is_reading_of(form_network((2,)), (((2,), (61,)), tuple((k,) for k in range(60)))))
        self.told(False, is_reading_of(form_network((2,)), (((2,), (62,)), tuple((k,) for k in range(61)))))
        self.told(True, is_reading_of(form_network((0,)), (above, above)))

    def test_many_corners(self):
        network = square_network(5, 5)
        above, below = reading_of(network)
        stick = ((0,) * 5, (1,) * 5)
        other = (summed(above, stick), summed(below, stick))
        self.told((60, 2) if len(other[0]) == 60 else (len(other[0]), 2), (len(other[0]), len(other[1])))
        self.told(len(other[0]) <= 60, is_reading_of(network, other))
        diamond = lot_of(row for row in product((-1, 0, 1), repeat=3) if sum(map(abs, row)) == 1)
        small = square_network(3, 3)
        above, below = reading_of(small)
        self.told(True, is_reading_of(small, (summed(above, diamond), summed(below, diamond))))
        self.told(False, is_reading_of(small, (summed(above, diamond)[:-1], summed(below, diamond))))

    def test_refused_network(self):
        for judged in (None, (TRIANGLE, POINT)):
            self.fails(TooMany, is_reading_of, square_network(6, 6), judged, limit=60)


class BackAgain(Case):

    def test_networks_of_readings(self):
        for _ in range(60):
            length = self.source.randint(1, 4)
            reading = random_reading(self.source, length, 5, 3)
            network = network_of(reading)
            most = max(len(corners(lot)) for lot in reading)
            self.told({1: 0, 2: 1, 3: 2, 4: 2, 5: 3}[most], network.depth)
            for _ in range(6):
                row = random_row(self.source, length, 9)
                self.told(tells(reading, row), value_of(network, row))
            self.told(True, is_network_of(reading, network))
            self.told(True, is_reading_of(network, reading))
            self.told(True, do_agree(reading, reading_of(network)))

    def test_as_told(self):
        forms = [form_network(row) for row in TRIANGLE]
        tree = greater(greater(forms[0], forms[1]), forms[2])
        self.told(added(tree, multiplied(form_network((0, 0)), -1)), network_of((TRIANGLE, POINT)))
        forms = [form_network((row,)) for row in (0, 5)]
        expected = added(greater(*forms), multiplied(greater(form_network((-1,)), form_network((2,))), -1))
        self.told(expected, network_of((((0,), (3,), (5,)), ((-1,), (0,), (2,)))))
        lot = moments(5, 2)
        a, b, c, d, e = [form_network(row) for row in lot]
        tree = greater(greater(greater(a, b), greater(c, d)), e)
        self.told(added(tree, multiplied(form_network((0, 0)), -1)), network_of((lot, POINT)))
        lot = moments(6, 2)
        a, b, c, d, e, f = [form_network(row) for row in lot]
        tree = greater(greater(greater(a, b), greater(c, d)), greater(e, f))
        self.told(added(form_network((0, 0)), multiplied(tree, -1)), network_of((POINT, lot)))

    def test_sixteen_corners(self):
        # The networks of so many forms are refused by their reading, if not by their number.
        for many in (16, 15):
            self.fails(TooMany, network_of, (moments(many, 4), ((0,) * 4,)), limit=60)
            self.told(False, is_network_of((moments(many, 4), ((0,) * 4,)), form_network((1, 1, 1, 1))))
        for call in (network_of, lambda reading: is_network_of(reading, None)):
            self.fails(TooMany, call, (moments(17, 2), POINT), limit=16)
            self.fails(TooMany, call, (POINT, moments(17, 2)), limit=16)
        network = network_of((moments(16, 2), POINT))
        self.told((4, 15), (network.depth, len(network.units)))
        self.told(True, is_network_of((moments(16, 2), POINT), network))
        network = network_of((moments(16, 2), moments(16, 2, 3)))
        self.told((4, 30), (network.depth, len(network.units)))
        self.told(True, is_network_of((moments(16, 2), moments(16, 2, 3)), network))
        # Only corners count.
        self.told(1, network_of((tuple((k,) for k in range(400)), ((0,),))).depth)
        # Nine forms of eight inputs have just sixty corners.
        reading = (moments(9, 8), ((0,) * 8,))
        self.told((60, 12), tuple(len(lot) for lot in reading_of(network_of(reading))))
        self.told(True, is_network_of(reading, network_of(reading)))

    def test_long_corners(self):
        most = 10 ** 59 - 1
        reading = (((-most,), (most,)), ((-most,), (0,), (most,)))
        network = network_of(reading)
        self.told(True, is_network_of(reading, network))
        for x in (-1, 0, 1):
            self.told(tells(reading, (x,)), value_of(network, (x,)))
        for call in (network_of, lambda reading: is_network_of(reading, 5)):
            for long in (most + 1, -most - 1, SIXTY):
                self.fails(TooMany, call, (((long,),), ((0,),)), limit=10 ** 59)
                self.fails(TooMany, call, (((0,),), ((long,),)), limit=10 ** 59)
            # Too many corners come ahead of too long ones.
            self.fails(TooMany, call, (((SIXTY, 0),), moments(17, 2)), limit=16)
        # Only corners count.
        inner = ((0, 0), (0, 4), (most, 1), (most, 3))
        self.told(True, is_network_of((inner, POINT), network_of((inner, POINT))))

    def test_judge(self):
        reading = (TRIANGLE, POINT)
        network = network_of(reading)
        self.told(True, is_network_of(reading, network))
        other = added(network, Network(2, (((1, 0),), ((0, 1, 0),)), (0, 0, 0, 0)))
        self.told(True, is_network_of(reading, other))
        # One layer more than told, other values, other inputs, a network that is refused.
        self.told(False, is_network_of(reading, added(network, zeros(2, (1, 1, 1)))))
        self.told(False, is_network_of(reading, multiplied(network, 2)))
        self.told(False, is_network_of(reading, Network(3, (), (0, 0, 0))))
        rows = tuple((1, k) for k in range(31))
        refused = added(network, Network(2, (rows, ((0, 0) + (1,) * 31,)), (0, 0) + (0,) * 32))
        self.told(value_of(network, (3, -5)), value_of(refused, (3, -5)))
        self.told(False, is_network_of(reading, refused))
        for value_given in ODD_VALUES + BAD_NETWORKS + (reading,):
            self.told(False, is_network_of(reading, value_given))
        self.told(False, is_network_of((STICK, POINT), GREATER))
        self.told(True, is_network_of((((0, 1), (1, 0)), POINT), GREATER))
        self.told(True, is_network_of((((0, 1), (1, 0)), POINT), greater(form_network((0, 1)), form_network((1, 0)))))
        # A network with fewer layers than the told one.
        self.told(True, is_network_of((SQUARE, POINT), Network(2, (((1, 0), (0, 1)),), (0, 0, 1, 1))))
        self.told(True, is_network_of((SQUARE, SQUARE), form_network((0, 0))))


class Errors(Case):

    def test_readings(self):
        for reading in BAD_READINGS:
            for call in (ramped_reading, network_of):
                self.fails(InvalidReading, call, reading)
            self.fails(InvalidReading, value_at_reading, reading, None)
            self.fails(InvalidReading, multiplied_reading, reading, None)
            self.fails(InvalidReading, is_network_of, reading, GREATER)
            for call in (added_reading, greater_reading, do_agree):
                self.fails(InvalidReading, call, reading, (TRIANGLE, POINT))
                self.fails(InvalidReading, call, (TRIANGLE, POINT), reading)
                self.fails(InvalidReading, call, (((0,),), ((0,),)), reading)

    def test_lengths(self):
        for call in (added_reading, greater_reading, do_agree):
            self.fails(InvalidOperation, call, (TRIANGLE, POINT), (((0,),), ((0,),)))
            self.fails(InvalidOperation, call, (moments(50, 2), POINT), (moments(50, 3), moments(50, 3)))

    def test_rows_and_numbers(self):
        for row in ((), (1,), (1, 2, 3), [1, 2], None, 5, "12", (1, True), (1, SIXTY + 1)):
            self.fails(InvalidRow, value_at_reading, (TRIANGLE, POINT), row)
        for row in ((), (0,) * 9, [1], (True,), (None,), None, 5, (SIXTY + 1,), "1"):
            self.fails(InvalidRow, reading_of_form, row)
        for number in BAD_NUMBERS:
            self.fails(InvalidNumber, multiplied_reading, (TRIANGLE, POINT), number, given=number)

    def test_networks(self):
        for network in BAD_NETWORKS:
            self.fails(InvalidNetwork, reading_of, network)
            self.fails(InvalidNetwork, is_reading_of, network, None)
            self.fails(InvalidNetwork, is_reading_of, network, (TRIANGLE, POINT))


class Same(Case):

    def test_nothing_changes(self):
        one, other = (random_reading(self.source, 3, 5, 3) for _ in range(2))
        kept = tuple(tuple(tuple(row) for row in lot) for lot in one)
        for call in (
                ramped_reading, network_of, lambda x: added_reading(x, other), lambda x: greater_reading(x, other)):
            self.told(call(one), call(kept))
        self.told(kept, one)
        self.told(reading_of(LAMP), reading_of(Network(LAMP.inputs, LAMP.layers, LAMP.last)))
