"""What is promised over the whole program: stages 4 to 22 tell of one thing what agrees."""

from math import comb

from tests.helpers import Case, lot_of, minus, random_lot, random_row, scale, value
from tests.makings import made_alike, told_by
from tests.planes import plane_reading
from tests.test_networks import random_network

from rampworks.bench.bench import Bench
from rampworks.depth.bars import barred, grown, growths_of, level_of, parity
from rampworks.depth.greatest import greatest_network, greatest_or_bar, least_layers
from rampworks.depth.puts import (
    barring_choice, both_puts, is_barring, led_lot, led_reading, led_row, put_network, three_puts)
from rampworks.errors import InvalidOperation, TooMany
from rampworks.hull.corners import corners
from rampworks.hull.mixed import mixed, mixed_row, stick_volume
from rampworks.hull.sums import face, scaled, summed, turned
from rampworks.hull.volumes import own_volume, volume
from rampworks.judge.claims import answered, takes
from rampworks.net.alike import alike_or_point, greatest_or_rows, straight_or_rows
from rampworks.net.networks import Network, added, greater, multiplied, ramped, trimmed, value_of
from rampworks.net.ones import agree_or_place, value_at_place
from rampworks.net.readings import (
    added_reading, do_agree, greater_reading, is_reading_of, multiplied_reading, network_of, ramped_reading, reading_of)
from rampworks.net.signs import above_or_row
from rampworks.plane.depth import depth_paper, is_depth_paper, least_depth, network_for
from rampworks.plane.fans import round_by_values, round_of, smooth_fan, value_of_round, values_on
from rampworks.plane.least import border, least_reading, lot_of as lot_with, rest
from rampworks.stick.layer import bends, layer_or_places, least_units
from rampworks.stick.sticks import bared, sticks_or_plate
from rampworks.text.texts import lot_text, network_text, read_lot, read_network, read_reading, reading_text


def zeros(length):
    return (0,) * length


def inputs_reading(many):
    """The reading of the greatest of so many inputs."""
    return lot_of(tuple(int(k == at) for k in range(many)) for at in range(many)), (zeros(many),)


class GreatestOfForms(Case):
    """[0.14], [0.15], [9.2], [16.2], [16.3]."""

    def test_forms_put_in(self):
        for _ in range(40):
            many, length = self.source.randint(1, 6), self.source.randint(1, 4)
            rows = tuple(random_row(self.source, length, 2) for _ in range(many))
            network = put_network(greatest_network(many), rows)
            self.told(least_layers(many), network.depth)
            lot = corners(lot_of(rows))
            try:
                reading = reading_of(network)
            except TooMany as error:
                self.told(60, error.limit)
                continue
            self.told(True, do_agree(reading, (lot, (zeros(length),))))
            self.told(("greatest", lot), greatest_or_rows(network))
            self.told(lot, led_lot(inputs_reading(many)[0], rows))
            for _ in range(4):
                row = random_row(self.source, length, 9)
                self.told(value(lot, row), value_of(network, row))
            self.check_bars(reading, lot, network, length)

    def check_bars(self, reading, lot, network, length):
        point = (zeros(length),)
        told, paper = answered(("agree", (lot[:12], point), (lot[:12], point)))
        self.told(True, told[0] == "agree" and takes(told, paper))
        if length != 3:
            odd = volume(lot) % 2
            self.told(odd, parity(reading))
            self.told("odd" if odd else "even", answered(("odd", (lot, point)))[0][0])
            if odd:
                layers = {1: 0, 2: 1, 4: 2}[length]
                self.told(layers, barred(reading))
                self.assertGreater(network.depth, layers)
        single = answered(("single", (lot, point)))
        self.told("single" if layer_or_places((lot, point))[0] == "layer" else "several", single[0][0])
        if single[0][0] == "single":
            self.told(least_units((lot, point)), len(single[1].units))
            self.told(("alike",), alike_or_point(single[1], network))

    def test_exactly_if(self):
        for many in range(1, 7):
            above, below = inputs_reading(many)
            for layers in range(3):
                told, paper = greatest_or_bar(many, layers)
                self.told("network" if 2 ** layers >= many else "barred", told)
                if told == "barred":
                    # The rows are puts that bar the greatest of the inputs.
                    self.told(True, is_barring((above, below), layers, paper))
                if many <= 4:
                    choice = barring_choice((above, below), layers)
                    self.told(2 ** layers < many, choice is not None)
                    if choice is not None:
                        self.told(layers, barred(led_reading((above, below), choice)))

    def test_puts_bar_what_they_make(self):
        for _ in range(30):
            many, length = self.source.randint(2, 4), self.source.choice((1, 2))
            network = random_network(self.source, many, [2, 1][:self.source.randint(0, 2)], 2, 0.2)
            reading = reading_of(network)
            puts = tuple(random_row(self.source, length, 1) for _ in range(many))
            behind = put_network(network, puts)
            self.told(True, is_reading_of(behind, led_reading(reading, puts)))
            layers = length - 1
            if is_barring(reading, layers, puts):
                self.assertGreater(network.depth, layers)
                self.told(1, parity(reading_of(behind)))
            back = tuple(tuple(int(k == at) for k in range(length)) for at in range(length))
            self.told(puts, both_puts(puts, back))
            self.told(led_row(network.last[:many], puts), behind.last[:length])

    def test_one_layer_behind_three_inputs(self):
        for _ in range(25):
            length = self.source.randint(2, 4)
            reading = tuple(random_lot(self.source, 4, length, 1) for _ in range(2))
            try:
                told, paper = answered(("single", reading))
            except TooMany as error:
                self.told(60, error.limit)
                continue
            puts = tuple(random_row(self.source, 3, 1) for _ in range(length))
            if told[0] == "single":
                self.told("single", answered(("single", led_reading(reading, puts)))[0][0])
            else:
                (across, one), (_, other) = paper
                led = led_reading(reading, three_puts(reading, (across, one, other)))
                self.told("several", answered(("single", led))[0][0])


class VolumesOfGrowths(Case):
    """[0.14], [4.3], [4.5], [4.6], [8.1] to [8.5], [19.1], [19.2]."""

    def growth(self, length, level):
        if level == 0:
            return ("point", random_row(self.source, length, 2))
        joins = tuple(("join", self.growth(length, level - 1), self.growth(length, level - 1))
                      for _ in range(self.source.randint(1, 4 if level == 1 else 2)))
        growth = joins[0] if len(joins) == 1 else ("sum", joins)
        return ("times", 2, growth) if self.source.random() < 0.1 else growth

    def test_faces_are_even(self):
        known = 0
        for _ in range(120):
            length = self.source.randint(1, 4)
            growth = self.growth(length, self.source.randint(1, 2))
            try:
                lot = grown(growth)
            except TooMany as error:
                self.told(60, error.limit)
                continue
            level = level_of(growth)
            for row in [zeros(length)] + [random_row(self.source, length, 1) for _ in range(6)]:
                dimension, size = own_volume(face(lot, row))
                if dimension >= 2 ** level:
                    known += 1
                    self.told(0, size % 2)
            self.told(volume(lot), mixed((lot,) * length))
        self.assertGreater(known, 15)

    def test_sums_by_mixed_volumes(self):
        for _ in range(40):
            length = self.source.randint(1, 4)
            one, other = (self.growth(length, 1 if length == 4 else 2) for _ in range(2))
            try:
                lot, beside, both = grown(one), grown(other), grown(("sum", (one, other, other)))
                told = mixed_row(lot, beside)
            except TooMany as error:
                self.told(60, error.limit)
                continue
            self.told(sum(comb(length, i) * 2 ** (length - i) * told[i] for i in range(length + 1)), volume(both))
            self.told(volume(both), volume(summed(lot, scaled(beside, 2))))

    def test_sums_of_sticks(self):
        for _ in range(40):
            length = self.source.randint(1, 4)
            rows = [random_row(self.source, length, 2) for _ in range(self.source.randint(1, 5))]
            parts = tuple(("join", ("point", zeros(length)), ("point", row)) for row in rows)
            growth = ("sum", parts)
            lot = grown(growth)
            self.told(1, level_of(growth))
            self.told(stick_volume(tuple(rows)), volume(lot))
            self.told("sticks", sticks_or_plate(lot)[0])
            bundle, left = bared(lot)
            self.told(1, len(left))
            self.told(volume(lot), stick_volume(tuple(scale(row, c) for row, c in bundle)) if bundle else 0)
            told, paper = answered(("full", lot[:20]))
            self.told(True, takes(told, paper))
            if len(lot) <= 20:
                self.told("full" if volume(lot) > 0 else "flat", told[0])

    def test_networks(self):
        for _ in range(30):
            network = random_network(self.source, self.source.choice((1, 2)), [2, 2][:self.source.randint(0, 2)], 2, 0.2)
            above, below = reading_of(network)
            try:
                growths = growths_of(network)
            except TooMany as error:
                self.told(400, error.limit)
                continue
            self.told((above, below), (grown(growths[0]), grown(growths[1])))
            self.told(parity((above, below)), (volume(above) + volume(below)) % 2)
            for _ in range(3):
                for lot, growth in zip((above, below), growths):
                    dimension, size = own_volume(face(lot, random_row(self.source, network.inputs, 2)))
                    if dimension >= 2 ** level_of(growth):
                        self.told(0, size % 2)


class ThroughTexts(Case):
    """[5.4], [5.5], [6.1], [18.4], [20.2]."""

    def again(self, network):
        """The network through its text."""
        told = read_network(network_text(network))
        self.assertTrue(told == network)
        return told

    def test_networks_put_together(self):
        for _ in range(40):
            inputs = self.source.randint(1, 3)
            one, other = (random_network(self.source, inputs, [2][:self.source.randint(0, 1)], 3, 0.2) for _ in range(2))
            first, second = reading_of(self.again(one)), reading_of(self.again(other))
            number = self.source.randint(-3, 3)
            made = (
                (added(one, other), added_reading(first, second)), (greater(one, other), greater_reading(first, second)),
                (multiplied(one, number), multiplied_reading(first, number)), (ramped(one), ramped_reading(first)))
            for network, reading in made:
                self.again(trimmed(network))
                told = read_reading(reading_text(reading))
                self.told(reading, told)
                self.told(True, do_agree(reading_of(self.again(network)), told))
                self.told((reading[0], reading[1]), tuple(read_lot(lot_text(lot)) for lot in reading))
                if inputs > 1:
                    self.told(("agree",), agree_or_place(reading_of(network), told))

    def test_with_constants(self):
        for _ in range(30):
            inputs = self.source.randint(2, 3)
            network = random_network(self.source, inputs, [2], 2, 0.2)
            # A ramp that is shut wherever the last input is above 0.
            shut = Network(inputs, ((zeros(inputs - 1) + (-1,),),), zeros(inputs) + (self.source.randint(1, 3),))
            other = self.again(added(network, shut))
            one, two = reading_of(network), reading_of(other)
            self.told(("agree",), agree_or_place(one, two))
            self.told("point", alike_or_point(network, other)[0])
            self.told(False, do_agree(one, two))
            row, t = random_row(self.source, inputs - 1, 9), self.source.randint(1, 9)
            self.told(value_at_place(one, row, t), value_at_place(two, row, t))
            self.told(("above",), above_or_row(other, network, ()))


class ThePlane(Case):
    """Point 11 with [0.14] to [0.18]: from rays to depth."""

    def test_from_rays_to_depth(self):
        kinds = {}
        for at in range(90):
            depth = at % 3
            if at % 4:
                widths = [self.source.randint(1, 3) for _ in range(depth)]
                reading = reading_of(random_network(self.source, 2, widths, 2, 0.2))
            else:
                reading = plane_reading(self.source, 4, 2)
            told = round_of(reading)
            fan = smooth_fan(tuple(ray for ray, _ in told[1]))
            self.told(told, round_by_values(fan, values_on(told, fan)))
            least = least_reading(reading)
            self.told(told, round_of(least))
            self.told(rest(reading), rest(least))
            self.told(parity(reading), parity(least))
            depth = least_depth(reading)
            kinds[depth] = kinds.get(depth, 0) + 1
            paper = depth_paper(reading)
            self.told(True, is_depth_paper(reading, paper))
            self.told(True, is_depth_paper(read_reading(reading_text(least)), paper))
            network = read_network(network_text(network_for(reading)))
            self.told(depth, network.depth)
            self.told(True, is_reading_of(network, least))
            self.told(("layer" if depth < 2 else "places"), layer_or_places(reading)[0])
            self.told(depth == 0, straight_or_rows(network)[0] == "straight")
            if depth < 2:
                self.told(tuple((row, c, c) for row, c, _ in bends(reading)), bends(least))
            if parity(reading) == 1:
                self.told(2, depth)
            for _ in range(3):
                row = random_row(self.source, 2, 9)
                self.told(value_of_round(told, row), value_of(network, row))
            if max(len(corners(lot)) for lot in reading) <= 12:
                small = tuple(corners(lot) for lot in reading)
                self.told("single" if depth < 2 else "several", answered(("single", small))[0][0])
        self.told(3, len(kinds))

    def test_borders(self):
        for _ in range(30):
            lot = random_lot(self.source, 7, 2, 4)
            told = border(lot)
            tips = corners(lot)
            self.told(tuple(minus(tip, tips[0]) for tip in tips), lot_with(told))
            self.told(border(turned(lot)), {scale(ray, -1): c for ray, c in sorted(told.items(), reverse=True)})
            self.told(told, border(read_lot(lot_text(lot))))
            bent = {ray: c for ray, c in round_of((lot, ((0, 0),)))[1]}
            self.told(sorted(bent.values()), sorted(told.values()))


class BenchRuns(Case):
    """[0.14]: runs of a bench."""

    def test_what_is_told_of_networks_on_it(self):
        for _ in range(10):
            bench = Bench()
            for name in ("one", "two"):
                bench.put(name, random_network(self.source, 2, [2, 1], 2, 0.2))
            for _ in range(12):
                name = self.source.choice(bench.names)
                kind = self.source.randrange(5)
                network = bench.network_of(name)
                if kind == 0:
                    other = self.source.choice(made_alike(self.source, network))
                    bench.put(name, read_network(network_text(other)))
                elif kind == 1 and network.depth > 0:
                    bench.unit(name, 0, random_row(self.source, network.inputs, 2))
                elif kind == 2:
                    # The puts can be put back: what is told of depth stays.
                    bench.put_in(name, ((1, self.source.randint(-2, 2)), (0, 1)))
                elif kind == 3:
                    bench.last_row(name, random_row(self.source, len(network.last), 2))
                elif kind == 4:
                    bench.undo()
                    bench.redo()
                self.check(bench, name, network, kind)

    def check(self, bench, name, before, kind):
        network = bench.network_of(name)
        try:
            reading, former = reading_of(network), reading_of(before)
        except TooMany as error:
            self.told(60, error.limit)
            return
        depth = least_depth(reading)
        self.assertLessEqual(depth, network.depth)
        if kind in (0, 1, 2, 4):
            self.told(least_depth(former), depth)
            self.told(parity(former), parity(reading))
        if kind in (0, 1, 4):
            self.told(("alike",), alike_or_point(before, network))
        if parity(reading) == 1:
            self.told((2, 1), (depth, barred(reading)))
        self.check_answers(bench)
        try:
            growths = growths_of(network)
        except TooMany as error:
            self.told(400, error.limit)
            return
        self.told(tuple(volume(lot) for lot in reading), tuple(volume(grown(growth)) for growth in growths))

    def check_answers(self, bench):
        for one in bench.names:
            for other in bench.names:
                try:
                    told = bench.ask(one, other)
                except (TooMany, InvalidOperation):
                    continue
                values = [lambda row: told_by(bench.network_of(one), row), lambda row: told_by(bench.network_of(other), row)]
                if told[0] == "point":
                    self.assertNotEqual(values[0](told[1]), values[1](told[1]))
                else:
                    row = random_row(self.source, bench.network_of(one).inputs, 9)
                    self.told(values[0](row), values[1](row))
                self.told(told, bench.known(one, other))

    def test_networks_of_readings(self):
        for _ in range(15):
            reading = plane_reading(self.source, 4, 2)
            bench = Bench()
            try:
                bench.put("tree", network_of(reading))
            except TooMany as error:
                self.told(60, error.limit)
                continue
            bench.put("least", network_for(reading))
            self.told(("alike",), bench.ask("tree", "least"))
            self.assertLessEqual(bench.network_of("least").depth, 2)
            bench.put_in("tree", ((0, 1), (1, 0)))
            bench.put_in("least", ((0, 1), (1, 0)))
            self.told(("alike",), bench.known("tree", "least"))
            self.told(least_depth(reading), least_depth(reading_of(bench.network_of("least"))))
