"""Stage 16: inputs put in."""

from itertools import product

from tests.helpers import ODD_VALUES, SIXTY, Case, det, dot, mix, moments, random_lot, random_row, scale, value
from tests.makings import polygon_network, told_by
from tests.test_networks import BAD_NETWORKS, LAMP, random_network

from rampworks.depth.bars import barred, parity
from rampworks.depth.puts import (
    barring_choice, both_puts, is_barring, led_lot, led_reading, led_row, put_network, three_puts)
from rampworks.errors import (
    InvalidLot, InvalidNetwork, InvalidNumber, InvalidOperation, InvalidReading, InvalidRow, TooMany)
from rampworks.hull.corners import corners, is_lot
from rampworks.hull.volumes import volume
from rampworks.net.networks import Network
from rampworks.net.readings import do_agree, reading_of, value_at_reading
from rampworks.plane.fans import round_of
from rampworks.stick.layer import bend_at, layer_or_places

TRIANGLE, POINT = ((0, 0), (0, 1), (1, 0)), ((0, 0),)
SQUARE = ((0, 0), (0, 1), (1, 0), (1, 1))
HALVES = ((1, 0), (0, 1), (0, 1))
FOURTH = (((0, 0, 0), (0, 0, 1), (0, 1, 0), (1, 0, 0)), ((0, 0, 0),))
BAD_PUTS = tuple(bad for bad in ODD_VALUES if bad not in (((2,), (1,)), ((1,), (1,)))) + (
    ((1, 2), (1,)), [(1, 2)], ((1, 2), [1, 2]), ((1, True),), ((1, SIXTY + 1),), ((),), ((1,) * 9,), ((1,),) * 9, (1, 2))


def random_puts(source, many, length, size=3):
    return tuple(random_row(source, length, size) if source.random() < 0.9 else (0,) * length for _ in range(many))


def made(puts, y):
    """The inputs that the puts make of new inputs."""
    return tuple(dot(row, y) for row in puts)


def is_paper(reading, puts):
    """By volumes of points led by hand."""
    lots = [corners(tuple(sorted({mix(point, puts) for point in lot}))) for lot in reading]
    return sum(volume(lot) for lot in lots) % 2 == 1


def choice_by_all(reading, layers):
    """The first paper of all choices, in Python's order."""
    length = 1 << layers
    units = [tuple(sign if k == at else 0 for k in range(length)) for at in range(length) for sign in (1, -1)]
    for puts in product(sorted([(0,) * length] + units), repeat=len(reading[0][0])):
        if is_paper(reading, puts):
            return puts
    return None


class Led(Case):

    def test_rows_and_lots(self):
        for _ in range(60):
            many, length = self.source.randint(1, 5), self.source.randint(1, 5)
            puts = random_puts(self.source, many, length)
            row = random_row(self.source, many, 5)
            self.told(mix(row, puts), led_row(row, puts))
            lot = random_lot(self.source, self.source.randint(1, 9), many, 3)
            told = led_lot(lot, puts)
            self.assertTrue(is_lot(told))
            self.told(corners(tuple(sorted({mix(point, puts) for point in lot}))), told)
            other = random_lot(self.source, 3, many, 3)
            self.told((told, led_lot(other, puts)), led_reading((lot, other), puts))
            for _ in range(5):
                y = random_row(self.source, length, 9)
                self.told(dot(row, made(puts, y)), dot(led_row(row, puts), y))
                self.told(value(lot, made(puts, y)), value(told, y))
                self.told(value_at_reading((lot, other), made(puts, y)),
                          value_at_reading(led_reading((lot, other), puts), y))

    def test_corners_come_of_corners(self):
        for _ in range(20):
            lot = random_lot(self.source, 9, 3, 3)
            puts = random_puts(self.source, 3, self.source.randint(1, 4))
            self.told(led_lot(corners(lot), puts), led_lot(lot, puts))

    def test_volumes_by_determinants(self):
        sizes = {}
        for _ in range(80):
            length = self.source.randint(1, 4)
            puts = random_puts(self.source, length, length, self.source.choice((1, 1, 2)))
            lot = random_lot(self.source, length + 3, length, 3)
            size = abs(det(puts))
            sizes[min(size, 2)] = True
            self.told(size * volume(lot), volume(led_lot(lot, puts)))
        self.told([0, 1, 2], sorted(sizes))

    def test_both_puts(self):
        for _ in range(30):
            many, length, last = (self.source.randint(1, 5) for _ in range(3))
            puts, further = random_puts(self.source, many, length), random_puts(self.source, length, last)
            both = both_puts(puts, further)
            self.told(tuple(mix(row, further) for row in puts), both)
            row = random_row(self.source, many, 9)
            self.told(led_row(led_row(row, puts), further), led_row(row, both))
            lot = random_lot(self.source, 5, many, 3)
            self.told(led_lot(led_lot(lot, puts), further), led_lot(lot, both))
            network = random_network(self.source, many, [2, 1], 3, 0.2)
            self.assertTrue(put_network(put_network(network, puts), further) == put_network(network, both))

    def test_most(self):
        puts = random_puts(self.source, 8, 8, 2)
        lot = random_lot(self.source, 60, 8, 9)
        self.told(corners(tuple(sorted({mix(point, puts) for point in lot}))), led_lot(lot, puts))
        self.told((SIXTY * SIXTY,), led_row((SIXTY,), ((SIXTY,),)))
        self.told(400, len(led_lot(moments(400, 2, -200), ((1, 0), (0, 1)))))


class Networks(Case):

    def test_values_layers_and_units(self):
        for _ in range(40):
            network = random_network(self.source, self.source.randint(1, 8), [2, 3, 1][:self.source.randint(0, 3)], 3, 0.2)
            length = self.source.randint(1, 8)
            puts = random_puts(self.source, network.inputs, length)
            told = put_network(network, puts)
            self.told((length, network.depth), (told.inputs, told.depth))
            self.told([len(layer) for layer in network.layers], [len(layer) for layer in told.layers])
            for _ in range(5):
                y = random_row(self.source, length, 9)
                self.told(told_by(network, made(puts, y)), told_by(told, y))

    def test_readings(self):
        for _ in range(25):
            network = random_network(self.source, self.source.randint(1, 3), [2, 2][:self.source.randint(0, 2)], 3, 0.2)
            puts = random_puts(self.source, network.inputs, self.source.randint(1, 3))
            try:
                reading, beside = reading_of(network), reading_of(put_network(network, puts))
            except TooMany as error:
                self.told(60, error.limit)
                continue
            self.told(True, do_agree(led_reading(reading, puts), beside))

    def test_put_back(self):
        puts, back = ((2, 1), (1, 1)), ((1, -1), (-1, 2))
        self.assertTrue(put_network(put_network(LAMP, puts), back) == LAMP)

    def test_long_weights(self):
        network = Network(1, (((1,),),), (0, 1))
        self.told(((SIXTY,),), put_network(network, ((SIXTY,),)).layers[0])
        self.fails(TooMany, put_network, Network(1, (((2,),),), (0, 1)), ((SIXTY,),), limit=10 ** 60)
        self.fails(TooMany, put_network, Network(2, (), (1, 1)), ((SIXTY,), (1,)), limit=10 ** 60)
        self.told((-SIXTY,), put_network(Network(2, (), (1, 1)), ((1 - SIXTY,), (-1,))).last)


class Bars(Case):

    def test_papers(self):
        for _ in range(60):
            many = self.source.randint(1, 5)
            reading = (random_lot(self.source, 4, many, 2), random_lot(self.source, 3, many, 2))
            layers = self.source.randint(0, 2)
            puts = random_puts(self.source, many, self.source.choice((1 << layers, 1 << layers, 3)))
            expected = len(puts[0]) == 1 << layers and is_paper(reading, puts)
            self.told(expected, is_barring(reading, layers, puts))
            if expected:
                self.told(1, parity(led_reading(reading, puts)))
                self.told(layers, barred(led_reading(reading, puts)))

    def test_first_choice(self):
        found = {}
        for at in range(60):
            layers = at % 3
            many = self.source.randint(1, 4 if layers < 2 else 3)
            reading = tuple(random_lot(self.source, self.source.randint(1, 4), many, 2) for _ in range(2))
            if at % 4 == 0:
                reading = tuple(tuple(scale(point, 2) for point in lot) for lot in reading)
            told = barring_choice(reading, layers)
            self.told(choice_by_all(reading, layers), told)
            found[(layers, told is None)] = True
            if told is not None:
                self.told(True, is_barring(reading, layers, told))
        self.assertGreater(len(found), 4)

    def test_as_many_inputs_as_new_ones(self):
        corner = tuple(sorted([(0,) * 4] + [tuple(int(k == at) for k in range(4)) for at in range(4)]))
        opposite = tuple(tuple(-int(k == at) for k in range(4)) for at in range(4))
        zeros = ((0,) * 4,)
        self.told(opposite, barring_choice((corner, zeros), 2))
        self.told(None, barring_choice((tuple(scale(point, 2) for point in corner), zeros), 2))
        self.told(((-1, 0), (0, -1)), barring_choice((TRIANGLE, POINT), 1))
        self.told(((-1,),), barring_choice((((0,), (3,)), ((0,),)), 0))
        self.told(None, barring_choice((((0,), (2,)), ((0,),)), 0))
        self.told(None, barring_choice((TRIANGLE, POINT), 2))

    def test_not_true(self):
        # Puts with equal rests by 2 do not bar alike; an even function can be barred behind puts.
        lot = ((0, 0), (0, 1), (1, 0), (1, 1))
        self.told(0, parity((lot, POINT)))
        self.told(((-1,), (0,)), barring_choice((lot, POINT), 0))

    def test_three_inputs(self):
        for _ in range(25):
            length = self.source.randint(2, 4)
            reading = tuple(random_lot(self.source, 4, length, 2) for _ in range(2))
            told = layer_or_places(reading)
            if told[0] == "layer":
                continue
            (across, one), (_, other) = told[1:]
            puts = three_puts(reading, (across, one, other))
            self.told(tuple(zip(one, other, across)), puts)
            self.told("places", layer_or_places(led_reading(reading, puts))[0])
            self.told(across, made(puts, (0, 0, 1)))
            self.told(one, made(puts, (1, 0, 0)))

    def test_led_bends(self):
        reading = (TRIANGLE, POINT)
        puts = three_puts(reading, ((1, 0), (0, 1), (0, -1)))
        led = led_reading(reading, puts)
        self.told(0, bend_at(led, ((0, 0, 1), (1, 0, 0))))
        self.told(1, bend_at(led, ((0, 0, 1), (0, 1, 0))))
        self.told(round_of((TRIANGLE, POINT)), round_of(led_reading((TRIANGLE, POINT), ((1, 0), (0, 1)))))


class Errors(Case):

    def test_puts(self):
        lot, reading = TRIANGLE, (TRIANGLE, POINT)
        for bad in BAD_PUTS:
            for call in (lambda: led_row((1, 2), bad), lambda: led_lot(lot, bad), lambda: led_reading(reading, bad),
                         lambda: put_network(LAMP, bad), lambda: both_puts(bad, ((1,), (2,))),
                         lambda: both_puts(((1, 2),), bad), lambda: is_barring(reading, 1, bad),
                         lambda: both_puts(bad, bad)):
                self.fails(InvalidRow, call)
        for puts in (((1,),), ((1, 2),) * 3, ((1,),) * 8):
            for call in (lambda: led_row((1, 2), puts), lambda: led_lot(lot, puts), lambda: led_reading(reading, puts),
                         lambda: put_network(LAMP, puts), lambda: both_puts(((1, 2),), puts),
                         lambda: is_barring(reading, 1, puts)):
                self.fails(InvalidOperation, call)

    def test_what_is_led(self):
        for bad in ODD_VALUES:
            if not (isinstance(bad, tuple) and bad and all(type(x) is int and abs(x) <= SIXTY for x in bad)
                    and len(bad) < 9):
                self.fails(InvalidRow, led_row, bad, None)
            if not is_lot(bad):
                self.fails(InvalidLot, led_lot, bad, None)
            self.fails(InvalidReading, led_reading, bad, None)
            self.fails(InvalidReading, is_barring, bad, None, None)
            self.fails(InvalidReading, barring_choice, bad, None)
            self.fails(InvalidReading, three_puts, bad, None)
        for bad in BAD_NETWORKS + ODD_VALUES:
            self.fails(InvalidNetwork, put_network, bad, None)

    def test_layers(self):
        for bad in (3, -1, True, False, None, "1", 10 ** 60, (1,), 2.5 and ()):
            self.fails(InvalidNumber, is_barring, (TRIANGLE, POINT), bad, None, given=bad)
            self.fails(InvalidNumber, barring_choice, (TRIANGLE, POINT), bad, given=bad)
            self.fails(InvalidNumber, barring_choice, (((0,) * 5,), ((0,) * 5,)), bad, given=bad)

    def test_many_corners(self):
        wide, most = moments(61, 2), moments(60, 2)
        puts = ((1, 0), (0, 1))
        for reading in ((wide, POINT), (POINT, wide), (wide, wide)):
            self.fails(TooMany, is_barring, reading, 1, puts, limit=60)
            self.fails(TooMany, barring_choice, reading, 1, limit=60)
        # Behind puts they can be few.
        self.told(False, is_barring((wide, POINT), 0, ((2,), (0,))))
        for layers in (0, 1, 2):
            self.told(True, barring_choice((most, most), layers) is None)
        self.told(is_paper((most, POINT), puts), is_barring((most, POINT), 1, puts))
        five = ((0,) * 5,)
        self.fails(InvalidOperation, barring_choice, (five, five), 1)
        self.fails(InvalidOperation, barring_choice, (moments(61, 5), five), 1)
        self.told(None, barring_choice((((0,) * 4,), ((0,) * 4,)), 2))

    def test_places(self):
        reading = (TRIANGLE, POINT)
        good = ((1, 0), (0, 1), (0, -1))
        self.told(((0, 0, 1), (1, -1, 0)), three_puts(reading, good))
        self.told(((0, 0, 2), (0, 5, 0)), three_puts(reading, ((2, 0), (0, 0), (0, 5))))
        for bad in ODD_VALUES + (
                good[:2], good + good[:1], list(good), ((0, 0), (0, 1), (0, 1)), ((1, 0), (1, 1), (0, 1)),
                ((1, 0), (0, 1), (1, 1)), ((1, 0, 0), (0, 1, 0), (0, 0, 1)), ((1,), (0,), (0,)),
                ((1, 0), [0, 1], (0, 1)), ((True, 0), (0, 1), (0, 1)), ((1, 0), (0, SIXTY + 1), (0, 1))):
            self.fails(InvalidOperation, three_puts, reading, bad)

    def test_equal_calls(self):
        reading = tuple(reading_of(polygon_network(5)))
        for call in (lambda: led_reading(reading, ((1, 2), (3, 1))), lambda: barring_choice(reading, 1),
                     lambda: led_lot(reading[0], ((1,), (2,)))):
            self.told(call(), call())
        self.assertTrue(put_network(LAMP, HALVES[:2]) == put_network(LAMP, HALVES[:2]))
        self.told(True, is_barring(FOURTH, 1, HALVES))
        self.told(((0, 0), (0, 1), (2, 1), (2, 2)), led_lot(SQUARE, ((2, 1), (0, 1))))
