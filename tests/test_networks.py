"""Stage 5: networks."""

from tests.helpers import ODD_VALUES, SIXTY, Case, dot, plus, random_row, scale

from rampworks.errors import InvalidNetwork, InvalidNumber, InvalidOperation, InvalidRow, TooMany
from rampworks.net import networks as told
from rampworks.net.networks import (
    Network, added, form_at, form_network, greater, multiplied, pattern_at, ramped, trimmed, unit_values, value_of)

LAMP = Network(2, (((1, -1), (0, 1)), ((1, 0, -1, 0),)), (0, 0, 1, 2, -1))
BAD_NETWORKS = (
    None, True, 5, "network", (), (2, (), (1, 1)), [LAMP], (LAMP,), {"a": LAMP}, (((0,),), ((0,),)), LAMP.layers)
BAD_NUMBERS = (None, True, False, "1", (1,), [0], SIXTY + 1, -SIXTY - 1, 10 ** 99)


def zeros(inputs, widths, last=None):
    """A network with zeros alone."""
    width, layers = inputs, []
    for many in widths:
        layers.append(((0,) * width,) * many)
        width += many
    return Network(inputs, tuple(layers), (0,) * width if last is None else last)


def random_network(source, inputs, widths, size, lack=0.0):
    def row(width):
        return tuple(0 if source.random() < lack else source.randint(-size, size) for _ in range(width))
    width, layers = inputs, []
    for many in widths:
        layers.append(tuple(row(width) for _ in range(many)))
        width += many
    return Network(inputs, tuple(layers), row(width))


def some_network(source, size=3, lack=0.3):
    inputs, depth = source.randint(1, 8), source.randint(0, 4)
    return random_network(source, inputs, [source.randint(1, 4) for _ in range(depth)], size, lack)


def reckoned(network, row):
    """The sums of all units and the value, by the document's words."""
    values, sums = list(row), []
    for layer in network.layers:
        there = [sum(a * b for a, b in zip(unit, values, strict=True)) for unit in layer]
        sums.extend(there)
        values.extend(max(0, x) for x in there)
    return sums, dot(network.last, values)


class Parts(Case):

    def test_properties(self):
        self.told(2, LAMP.inputs)
        self.told((((1, -1), (0, 1)), ((1, 0, -1, 0),)), LAMP.layers)
        self.told((0, 0, 1, 2, -1), LAMP.last)
        self.told(2, LAMP.depth)
        self.told(((1, -1), (0, 1), (1, 0, -1, 0)), LAMP.units)
        bare = Network(3, (), (1, 2, 3))
        self.told((3, (), (1, 2, 3), 0, ()), (bare.inputs, bare.layers, bare.last, bare.depth, bare.units))
        self.assertEqual({"inputs", "layers", "last", "depth", "units"}, set(vars(LAMP)))

    def test_texts(self):
        self.told("network of 2 inputs, layers 2 1", str(LAMP))
        self.told("network of 1 inputs, no layers", str(Network(1, (), (5,))))
        self.told("network of 8 inputs, no layers", str(form_network((0,) * 8)))
        self.told("network of 3 inputs, layers 64 1 2 61", str(zeros(3, (64, 1, 2, 61))))
        self.told("network of 1 inputs, layers 10", str(zeros(1, (10,))))

    def test_equality(self):
        again = Network(2, (((1, -1), (0, 1)), ((1, 0, -1, 0),)), (0, 0, 1, 2, -1))
        self.told(True, LAMP == again)
        self.told(False, LAMP != again)
        others = (
            Network(2, (((1, -1), (0, 2)), ((1, 0, -1, 0),)), (0, 0, 1, 2, -1)),
            Network(2, (((1, -1), (0, 1)), ((1, 0, -1, 0),)), (0, 0, 1, 2, 1)),
            Network(2, (((1, -1), (0, 1)),), (0, 0, 1, 2)), Network(4, (), (0, 0, 1, 2)), Network(2, (), (0, 0)))
        for other in others + ODD_VALUES + (LAMP.layers, (2, LAMP.layers, LAMP.last)):
            self.told(False, LAMP == other)
            self.told(True, LAMP != other)
            self.told(False, other == LAMP)
        self.told(True, again in (None, [1], LAMP))
        self.told(False, again in ODD_VALUES)
        # The same rows in other layers are another network.
        self.told(False, zeros(2, (1, 1)) == zeros(2, (2,), (0,) * 4))

    def test_no_iteration(self):
        for call in (iter, list, len, sorted, lambda x: x[0], lambda x: 1 in x):
            with self.assertRaises(TypeError):
                call(LAMP)

    def test_constants(self):
        self.told((8, 4, 64, 128), (told.MOST_INPUTS, told.MOST_LAYERS, told.MOST_IN_LAYER, told.MOST_UNITS))

    def test_bounds_are_let(self):
        for network in (
                zeros(8, ()), zeros(1, (64, 64)), zeros(8, (64, 1, 1, 62)), zeros(8, (32, 32, 32, 32)),
                zeros(1, (1,) * 4),
                Network(1, (((SIXTY,), (-SIXTY,)),), (SIXTY, -SIXTY, 0))):
            self.told(0, value_of(network, (0,) * network.inputs))
            self.told(network, Network(network.inputs, network.layers, network.last))

    def test_refused_parts(self):
        good = (1, (((1,),),), (0, 1))
        wrong = (
            [(inputs, good[1], good[2]) for inputs in (0, 9, -1, True, None, "1", 2, (1,), 10 ** 99)]
            + [(1, layers, (0, 1)) for layers in (
                None, 5, "a", [((1,),)], ([(1,)],), (([1],),), ((1,),), ((),), (((),),), (((1, 2),),), (((True,),),),
                (((None,),),), (((SIXTY + 1,),),), (((1,),), ()), (((1,),), ((1,),)), (((1,), (1, 1)),), ({},), (None,),
                (((1,),),) * 2)]
            + [(1, good[1], last) for last in (
                None, (), (1,), (0, 1, 2), [0, 1], (0, True), (0, None), (0, SIXTY + 1), (-SIXTY - 1, 0), "01", 5)])
        for parts in wrong:
            self.fails(InvalidNetwork, Network, *parts)

    def test_one_beyond(self):
        for inputs, widths in ((9, ()), (1, (65,)), (1, (1,) * 5), (1, (64, 64, 1)), (8, (32, 32, 32, 33))):
            width, layers = inputs, []
            for many in widths:
                layers.append(((0,) * width,) * many)
                width += many
            self.fails(InvalidNetwork, Network, inputs, tuple(layers), (0,) * width)


class Values(Case):

    def test_right_by_sums(self):
        for _ in range(150):
            network = some_network(self.source, self.source.choice((1, 3, SIXTY)))
            for size in (0, 1, 9, SIXTY):
                row = random_row(self.source, network.inputs, size)
                sums, value = reckoned(network, row)
                self.told(value, value_of(network, row))
                self.told(tuple(max(0, x) for x in sums), unit_values(network, row))
                self.told(tuple(x > 0 for x in sums), pattern_at(network, row))
                self.told(value, dot(form_at(network, row), row))

    def test_multiples_of_rows(self):
        for _ in range(40):
            network = some_network(self.source)
            row = random_row(self.source, network.inputs, 9)
            for number in (0, 1, 2, 10 ** 40):
                self.told(number * value_of(network, row), value_of(network, scale(row, number)))

    def test_forms_where_the_pattern_is_one(self):
        found = 0
        for _ in range(300):
            network = some_network(self.source, 2)
            one, other = (random_row(self.source, network.inputs, 4) for _ in range(2))
            if pattern_at(network, one) == pattern_at(network, other):
                found += 1
                self.told(form_at(network, one), form_at(network, other))
                self.told(value_of(network, plus(one, other)), dot(form_at(network, one), plus(one, other)))
        self.assertGreater(found, 30)

    def test_form_by_units_that_are_on(self):
        # The unit is off where its row tells just 0.
        ramp = Network(2, (((1, -1),),), (0, 1, 1))
        self.told((1, 0), form_at(ramp, (1, 0)))
        self.told((0, 1), form_at(ramp, (1, 1)))
        self.told((0, 1), form_at(ramp, (0, 1)))
        self.told((False,), pattern_at(ramp, (1, 1)))
        self.told((7,), form_at(form_network((7,)), (-3,)))
        self.told((), unit_values(form_network((7,)), (-3,)))
        self.told((), pattern_at(form_network((7,)), (-3,)))

    def test_units_take_all_layers_ahead(self):
        network = Network(1, (((1,),), ((1, -2),), ((10, 1, 1),)), (100, 1, 1, 1))
        for x in range(-3, 4):
            one = max(0, x)
            other = max(0, x - 2 * one)
            third = max(0, 10 * x + one + other)
            self.told((one, other, third), unit_values(network, (x,)))
            self.told(100 * x + one + other + third, value_of(network, (x,)))

    def test_greatest_networks(self):
        network = random_network(self.source, 8, (32, 32, 32, 32), SIXTY)
        row = random_row(self.source, 8, SIXTY)
        sums, value = reckoned(network, row)
        self.told(value, value_of(network, row))
        self.told(value, dot(form_at(network, row), row))
        self.told(tuple(x > 0 for x in sums), pattern_at(network, row))

    def test_what_is_not_true(self):
        off = Network(1, (((0,),),), (3, 1))
        self.told(off, trimmed(off))
        self.told(6, value_of(off, (2,)))
        self.told((False,), pattern_at(off, (2,)))


class Together(Case):

    def two(self, size=3):
        one = some_network(self.source, size)
        while True:
            other = some_network(self.source, size)
            if other.inputs == one.inputs:
                return one, other

    def test_sums(self):
        for _ in range(60):
            one, other = self.two()
            total = added(one, other)
            self.told(max(one.depth, other.depth), total.depth)
            for _ in range(6):
                row = random_row(self.source, one.inputs, 9)
                self.told(value_of(one, row) + value_of(other, row), value_of(total, row))
            self.side_by_side(one, other, total, ())

    def side_by_side(self, one, other, total, more):
        """Layer by layer the units of the one and of the other one, by the values of the units."""
        row = random_row(self.source, one.inputs, 9)
        left, right, at, behind, expected = unit_values(one, row), unit_values(other, row), 0, 0, ()
        for k in range(max(one.depth, other.depth)):
            many = len(one.layers[k]) if k < one.depth else 0
            further = len(other.layers[k]) if k < other.depth else 0
            expected += left[at:at + many] + right[behind:behind + further]
            at, behind = at + many, behind + further
            self.told(many + further, len(total.layers[k]))
        self.told(expected + more, unit_values(total, row)[:len(expected) + len(more)])

    def test_sums_as_told(self):
        one = Network(1, (((1,), (2,)), ((3, 4, 5),)), (6, 7, 8, 9))
        other = Network(1, (((-1,),),), (10, 11))
        self.told((((1,), (2,), (-1,)), ((3, 4, 5, 0),)), added(one, other).layers)
        self.told((16, 7, 8, 11, 9), added(one, other).last)
        self.told((((-1,), (1,), (2,)), ((3, 0, 4, 5),)), added(other, one).layers)
        self.told((16, 11, 7, 8, 9), added(other, one).last)
        self.told(Network(1, (), (3,)), added(form_network((1,)), form_network((2,))))

    def test_greater_as_told(self):
        one = Network(1, (((1,), (2,)), ((3, 4, 5),)), (6, 7, 8, 9))
        other = Network(1, (((-1,),),), (10, 11))
        found = greater(one, other)
        self.told((((1,), (2,), (-1,)), ((3, 4, 5, 0),), ((-4, 7, 8, -11, 9),)), found.layers)
        self.told((10, 0, 0, 11, 0, 1), found.last)
        found = greater(other, one)
        self.told((((-1,), (1,), (2,)), ((3, 0, 4, 5),), ((4, 11, -7, -8, -9),)), found.layers)
        self.told((6, 0, 7, 8, 9, 1), found.last)

    def test_greater_ones(self):
        for _ in range(60):
            one, other = self.two()
            if max(one.depth, other.depth) == 4:
                self.fails(TooMany, greater, one, other, limit=4)
                continue
            total = greater(one, other)
            self.told(max(one.depth, other.depth) + 1, total.depth)
            for _ in range(6):
                row = random_row(self.source, one.inputs, 9)
                self.told(max(value_of(one, row), value_of(other, row)), value_of(total, row))
            self.side_by_side(one, other, total, ())

    def test_multiples_and_ramps(self):
        for _ in range(60):
            network = some_network(self.source)
            for number in (0, 1, -1, 5, -(10 ** 50)):
                times = multiplied(network, number)
                self.told(network.layers, times.layers)
                self.told(scale(network.last, number), times.last)
            if network.depth < 4:
                self.told(network.layers + ((network.last,),), ramped(network).layers)
                self.told((0,) * len(network.last) + (1,), ramped(network).last)
                row = random_row(self.source, network.inputs, 9)
                self.told(max(0, value_of(network, row)), value_of(ramped(network), row))
            else:
                self.fails(TooMany, ramped, network, limit=4)

    def test_forms(self):
        self.told(Network(3, (), (1, 0, -2)), form_network((1, 0, -2)))
        for row in ((), (0,) * 9, [1], (True,), (None,), None, 5, (SIXTY + 1,), "1"):
            self.fails(InvalidRow, form_network, row)

    def test_too_many_units_in_a_layer(self):
        one = zeros(1, (32,))
        self.told((64,), tuple(len(layer) for layer in added(one, one).layers))
        self.fails(TooMany, added, one, zeros(1, (33,)), limit=64)
        self.fails(TooMany, greater, one, zeros(1, (33,)), limit=64)
        self.fails(TooMany, added, zeros(1, (64,)), zeros(1, (1,)), limit=64)

    def test_too_many_units_in_all(self):
        one = zeros(1, (32, 32))
        self.told(128, len(added(one, one).units))
        self.fails(TooMany, greater, one, one, limit=128)
        self.fails(TooMany, ramped, added(one, one), limit=128)
        self.fails(TooMany, added, zeros(1, (32, 32, 1)), one, limit=128)
        # Layers come first, then units in a layer, then units in all, then weights.
        self.fails(TooMany, ramped, zeros(1, (32, 32, 32, 32)), limit=4)
        self.fails(TooMany, greater, zeros(1, (64, 1, 1, 1)), zeros(1, (64, 1, 1, 1)), limit=4)
        self.fails(TooMany, added, zeros(1, (64, 64)), zeros(1, (1,)), limit=64)
        self.fails(TooMany, added, Network(1, zeros(1, (64,)).layers, (SIXTY,) * 65), Network(
            1, (((1,),),), (SIXTY, 1)), limit=64)

    def test_too_long_weights(self):
        long = form_network((SIXTY,))
        self.told((0,), added(long, form_network((-SIXTY,))).last)
        self.fails(TooMany, added, long, form_network((1,)), limit=10 ** 60)
        self.fails(TooMany, added, form_network((-SIXTY,)), form_network((-1,)), limit=10 ** 60)
        self.fails(TooMany, multiplied, long, 2, limit=10 ** 60)
        self.told((-SIXTY,), multiplied(long, -1).last)
        self.told((10 ** 59 * 9,), multiplied(form_network((10 ** 59,)), 9).last)
        self.fails(TooMany, multiplied, form_network((10 ** 59,)), 10, limit=10 ** 60)
        # The unit one - other is too long, though the last row is not.
        self.fails(TooMany, greater, long, form_network((-1,)), limit=10 ** 60)
        self.told((((SIXTY - 1,),),), greater(long, form_network((1,))).layers)
        self.told((((SIXTY,),),), ramped(long).layers)


class Trimmed(Case):

    def test_values_stay(self):
        left = 0
        for _ in range(200):
            network = some_network(self.source, 2, 0.7)
            found = trimmed(network)
            left += found.units != network.units
            for _ in range(4):
                row = random_row(self.source, network.inputs, 9)
                self.told(value_of(network, row), value_of(found, row))
            self.told(found, trimmed(found))
            self.assertTrue(self.all_matter(found))
        self.assertGreater(left, 50)

    def all_matter(self, network):
        """Each unit has other than 0 in the last row, or in the row of a unit behind it."""
        rows = network.units + (network.last,)
        return all(any(row[network.inputs + at] != 0 for row in rows if len(row) > network.inputs + at)
                   for at in range(len(network.units)))

    def test_known(self):
        self.told(Network(1, (((1,),),), (1, 3)), trimmed(Network(1, (((1,), (2,)), ((0, 0, 1),)), (1, 3, 0, 0))))
        # A layer in the middle goes; what is behind it takes what is ahead.
        network = Network(1, (((1,), (5,)), ((1, 1, 1), (2, 2, 2)), ((0, 3, 0, 0, 0),)), (0, 0, 0, 0, 0, 7))
        self.told(Network(1, (((1,),), ((0, 3),)), (0, 0, 7)), trimmed(network))
        # What matters only for a unit that does not matter does not matter.
        network = Network(2, (((1, 1),), ((0, 0, 1),), ((0, 0, 0, 1),)), (4, 5, 0, 0, 0))
        self.told(form_network((4, 5)), trimmed(network))
        self.told(LAMP, trimmed(LAMP))
        self.told(form_network((1,)), trimmed(Network(1, zeros(1, (64, 64)).layers, (1,) + (0,) * 128)))

    def test_off_everywhere_matters(self):
        network = Network(1, (((1,),), ((0, -1),)), (0, 0, 5))
        self.told(network, trimmed(network))


class Errors(Case):

    def test_networks(self):
        for network in BAD_NETWORKS:
            for call in (value_of, unit_values, pattern_at, form_at):
                self.fails(InvalidNetwork, call, network, (1, 1))
                self.fails(InvalidNetwork, call, network, None)
            for call in (ramped, trimmed):
                self.fails(InvalidNetwork, call, network)
            for call in (added, greater):
                self.fails(InvalidNetwork, call, network, LAMP)
                self.fails(InvalidNetwork, call, LAMP, network)
                self.fails(InvalidNetwork, call, form_network((1,)), network)
            self.fails(InvalidNetwork, multiplied, network, 2)
            self.fails(InvalidNetwork, multiplied, network, None)

    def test_rows(self):
        for call in (value_of, unit_values, pattern_at, form_at):
            for row in (
                    (), (1,), (1, 2, 3), [1, 2], None, 5, "12", (1, True), (1, None), (1, SIXTY + 1), (-SIXTY - 1, 1)):
                self.fails(InvalidRow, call, LAMP, row)

    def test_numbers(self):
        for number in BAD_NUMBERS:
            self.fails(InvalidNumber, multiplied, LAMP, number, given=number)

    def test_inputs(self):
        for call in (added, greater):
            self.fails(InvalidOperation, call, LAMP, form_network((1,)))
            self.fails(InvalidOperation, call, zeros(1, (1,) * 4), zeros(2, (64, 64)))


class Same(Case):

    def test_nothing_changes(self):
        one, other = zeros(2, (3, 2)), LAMP
        kept = [(x.inputs, x.layers, x.last, x.depth, x.units) for x in (one, other)]
        for call in (added, greater):
            self.told(call(one, other), call(one, other))
        for call in (ramped, trimmed, lambda x: multiplied(x, 3)):
            self.told(call(other), call(other))
        self.told(kept, [(x.inputs, x.layers, x.last, x.depth, x.units) for x in (one, other)])
