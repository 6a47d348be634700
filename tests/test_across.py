"""What is told of one function by its networks, readings, bends, volumes, rounds and depth agrees."""

from itertools import product

from tests.helpers import Case, lot_of, random_lot, random_row
from tests.makings import made_alike, told_by
from tests.planes import plane_reading, same_functions
from tests.test_networks import random_network
from tests.test_readings import random_reading, tells

from rampworks.depth.bars import are_growths, barred, growths_of, parity
from rampworks.depth.greatest import greatest_network, greatest_or_bar
from rampworks.errors import Refused, TooMany
from rampworks.hull.sums import summed
from rampworks.hull.volumes import volume
from rampworks.net.alike import alike_or_point, greatest_or_rows, straight_or_rows
from rampworks.net.networks import multiplied
from rampworks.net.readings import do_agree, network_of, reading_of
from rampworks.plane.depth import depth_paper, least_depth, network_for
from rampworks.plane.fans import is_round, round_of, value_of_round
from rampworks.plane.least import is_least, least_reading, rest, row_between
from rampworks.stick.layer import bends, layer_or_places, least_units
from rampworks.stick.sticks import sticks_or_plate


def some_readings(case, many):
    """Readings of functions of no, one and two layers."""
    found = []
    for at in range(many):
        depth = at % 3
        network = random_network(case.source, 2, [case.source.randint(1, 3) for _ in range(depth)], 3, 0.2)
        found.append(reading_of(network) if at % 4 else plane_reading(case.source, 4, 2))
    return found


class OneFunction(Case):

    def test_depth_and_one_layer(self):
        kinds = {0: 0, 1: 0, 2: 0}
        for reading in some_readings(self, 120):
            depth = least_depth(reading)
            kinds[depth] += 1
            told = layer_or_places(reading)
            self.told(depth <= 1, told[0] == "layer")
            if depth <= 1:
                self.told(depth, told[1].depth)
                paper = depth_paper(reading)
                planes = paper[2] if depth == 1 else ()
                self.told(least_units(reading), len(planes))
                self.told(tuple((row, c, c) for row, c in planes), bends(reading))
                self.told(("alike",), alike_or_point(told[1], network_for(reading)))
            else:
                with self.assertRaises(Refused):
                    least_units(reading)
        self.assertGreater(min(kinds.values()), 10)

    def test_bends_of_both_kinds(self):
        for reading in some_readings(self, 90):
            told = {}
            for ray, c in round_of(reading)[1]:
                row = (-ray[1], ray[0])
                row = row if row > (0, 0) else (-row[0], -row[1])
                told.setdefault(row, []).append(c)
            expected = []
            for row, numbers in sorted(told.items()):
                numbers = numbers + [0] * (2 - len(numbers))
                expected.append((row, min(numbers), max(numbers)))
            self.told(tuple(expected), bends(reading))
            self.assertEqual({(-ray[1], ray[0]): c for ray, c in round_of(reading)[1]}, rest(reading))

    def test_bars_and_depth(self):
        odd = 0
        for reading in some_readings(self, 240):
            if parity(reading) == 1:
                odd += 1
                self.told((1, 2), (barred(reading), least_depth(reading)))
            else:
                self.told(None, barred(reading))
        self.assertGreater(odd, 10)

    def test_networks_for_it(self):
        for reading in some_readings(self, 60):
            network = network_for(reading)
            for _ in range(10):
                row = random_row(self.source, 2, 9)
                self.told({tells(reading, row)}, {told_by(network, row), value_of_round(round_of(reading), row)})
            try:
                again = reading_of(network)
            except TooMany:
                continue
            self.told(round_of(reading), round_of(again))
            self.told(least_reading(reading), least_reading(again))
            self.told(parity(reading), parity(again))
            self.told((0, 0), row_between(reading, again))
            self.told(True, do_agree(reading, again))
            self.told(bends(reading), bends(again))
            try:
                growths = growths_of(network)
            except TooMany:
                continue
            self.told(True, are_growths(network, growths))

    def test_networks_alike_by_making(self):
        for _ in range(30):
            network = random_network(self.source, 2, [self.source.randint(1, 2) for _ in range(2)], 2, 0.3)
            reading = reading_of(network)
            for other in made_alike(self.source, network):
                try:
                    beside = reading_of(other)
                except TooMany:
                    continue
                self.told(round_of(reading), round_of(beside))
                self.told(parity(reading), parity(beside))
                self.told(least_depth(reading), least_depth(beside))
                self.told(least_reading(reading), least_reading(beside))
                self.told(("alike",), alike_or_point(network, other))

    def test_greatest_ones_bend_up_alone(self):
        kinds = {"greatest": 0, "rows": 0}
        for reading in some_readings(self, 90):
            network = network_of(reading) if max(len(lot) for lot in reading) <= 6 else network_for(reading)
            told = greatest_or_rows(network)
            kinds[told[0]] += 1
            numbers = [c for _, c in round_of(reading)[1]]
            self.told("greatest" if all(c > 0 for c in numbers) else "rows", told[0])
            self.told("straight" if not numbers else "rows", straight_or_rows(network)[0])
            if told[0] == "greatest":
                # The lot is P of the least reading, but for a move.
                above, below = least_reading(reading)
                self.told(1, len(below))
                self.told(above, told[1])
                self.told(parity(reading), volume(told[1]) % 2)
                self.told(least_depth(reading) <= 1, sticks_or_plate(told[1])[0] == "sticks")
        self.assertGreater(min(kinds.values()), 10)

    def test_least_ones(self):
        for reading in some_readings(self, 60):
            found = least_reading(reading)
            self.told(True, is_least(found))
            for other in same_functions(self.source, reading)[0]:
                self.told(found, least_reading(other))
                self.assertGreaterEqual(volume(other[0]), volume(found[0]))
                self.assertGreaterEqual(volume(other[1]), volume(found[1]))
            self.told(True, is_round(round_of(reading)))


class MoreInputs(Case):

    def test_the_greatest_of_numbers(self):
        for many in (2, 3, 4):
            network = greatest_network(many)
            self.told("greatest", greatest_or_rows(network)[0])
            self.told("rows", straight_or_rows(network)[0])
            lot = greatest_or_rows(network)[1]
            self.told(lot_of(tuple(int(k == at) for k in range(many)) for at in range(many)), lot)
            self.told("layer" if many == 2 else "places", layer_or_places(reading_of(network))[0])
            for layers in range(3):
                told = greatest_or_bar(many, layers)
                if told[0] == "barred":
                    points = lot_of(told[1])
                    self.told(layers, barred((points, ((0,) * len(points[0]),))))

    def test_one_layer_has_even_readings(self):
        for _ in range(40):
            network = random_network(self.source, 4, [self.source.randint(1, 4)], 3, 0.2)
            reading = reading_of(network)
            self.told((0, None), (parity(reading), barred(reading)))
            self.told("layer", layer_or_places(reading)[0])

    def test_opposite_ones(self):
        for _ in range(30):
            length = self.source.randint(1, 4)
            reading = random_reading(self.source, length, 3, 2)
            network = network_of(reading)
            opposite = multiplied(network, -1)
            self.told(straight_or_rows(network)[0], straight_or_rows(opposite)[0])
            self.told(tuple((row, -most, -least) for row, least, most in bends(reading)), bends(reading[::-1]))
            self.told(layer_or_places(reading)[0], layer_or_places(reading[::-1])[0])
            self.told("straight" if not bends(reading) else "rows", straight_or_rows(network)[0])

    def test_bends_of_readings_with_a_common_part(self):
        for _ in range(20):
            length = self.source.randint(2, 3)
            reading = random_reading(self.source, length, 3, 2)
            third = random_lot(self.source, 3, length, 2)
            other = tuple(summed(lot, third) for lot in reading)
            self.told(bends(reading), bends(other))
            for signs in product((1, -1), repeat=length):
                self.told(tells(reading, signs), tells(other, signs))
