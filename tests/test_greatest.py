"""Stage 9: the greatest of N numbers."""

from itertools import product

from tests.helpers import ODD_VALUES, SIXTY, Case, det, lot_of, minus, random_row, same
from tests.makings import made_alike, polygon_network, told_by, with_one_changed
from tests.test_networks import BAD_NETWORKS, zeros

from rampworks.depth import greatest as told
from rampworks.depth.bars import barred
from rampworks.depth.greatest import (
    does_tell_greatest, greatest_network, greatest_or_bar, is_greatest_or_bar, least_layers)
from rampworks.errors import InvalidNetwork, InvalidNumber, TooMany
from rampworks.hull.volumes import volume
from rampworks.net.alike import alike_or_point
from rampworks.net.networks import Network, added, form_network, greater, multiplied
from rampworks.net.readings import reading_of

BAD_COUNTS = (None, True, False, "1", (1,), [0], {}, 0, -1, 7, SIXTY, 10 ** 99, ())
BAD_LAYERS = (None, True, False, "1", (1,), [0], {}, -1, 5, SIXTY, 10 ** 99, ())
PAIR = Network(2, (((-1, 1),),), (1, 0, 1))


def in_a_row(many):
    """A network that takes one input more in each layer."""
    network = form_network(tuple(int(at == 0) for at in range(many)))
    for place in range(1, many):
        network = greater(network, form_network(tuple(int(at == place) for at in range(many))))
    return network


class Networks(Case):

    def test_least_layers(self):
        self.told([0, 1, 2, 2, 3, 3], [least_layers(many) for many in range(1, 7)])
        self.told(6, told.MOST_NUMBERS)

    def test_they_tell_the_greatest(self):
        for many in range(1, 7):
            network = greatest_network(many)
            self.told((many, least_layers(many)), (network.inputs, network.depth))
            for row in list(product((-1, 0, 2), repeat=many)) + [random_row(self.source, many, 99) for _ in range(60)]:
                self.told(max(row), told_by(network, row))
            self.told(True, does_tell_greatest(network))
            self.assertLessEqual(max(len(lot) for lot in reading_of(network)), 44)

    def test_any_network_is_judged(self):
        for many in range(1, 6):
            network = in_a_row(many)
            self.told(True, does_tell_greatest(network))
            for other in made_alike(self.source, network):
                try:
                    self.told(True, does_tell_greatest(other))
                except TooMany as error:
                    self.told(60, error.limit)
        self.told(False, does_tell_greatest(zeros(2, (2,))))
        self.told(True, does_tell_greatest(PAIR))
        self.told(True, does_tell_greatest(form_network((1,))))
        for form in ((0,), (2,), (-1,), (1, 0), (0, 0, 0)):
            self.told(False, does_tell_greatest(form_network(form)))
        self.told(False, does_tell_greatest(multiplied(PAIR, 2)))
        self.told(False, does_tell_greatest(added(PAIR, form_network((0, 1)))))

    def test_one_number_changed(self):
        right = 0
        for _ in range(120):
            many = self.source.randint(1, 5)
            network = with_one_changed(self.source, greatest_network(many))
            found = does_tell_greatest(network)
            other = alike_or_point(network, greatest_network(many))
            self.told(other == ("alike",), found)
            right += found
            if not found:
                self.assertNotEqual(max(other[1]), told_by(network, other[1]))
        self.assertLess(right, 60)

    def test_other_numbers_of_inputs(self):
        wide = Network(8, (((1, -1) + (0,) * 6,),), (0, 1) + (0,) * 6 + (1,))
        self.told(False, does_tell_greatest(wide))


class Either(Case):

    def test_right_by_sums(self):
        for many in range(1, 7):
            for layers in range(5):
                found = greatest_or_bar(many, layers)
                self.told("network" if 2 ** layers >= many else "barred", found[0])
                self.told(True, is_greatest_or_bar(many, layers, found))
                if found[0] == "network":
                    self.told(many, found[1].inputs)
                    self.assertLessEqual(found[1].depth, layers)
                    for _ in range(40):
                        row = random_row(self.source, many, 9)
                        self.told(max(row), told_by(found[1], row))
                else:
                    length = 2 ** layers
                    self.told((many, {length}), (len(found[1]), {len(row) for row in found[1]}))
                    points = lot_of(found[1])
                    self.told(1, volume(points) % 2)
                    self.told(layers, barred((points, ((0,) * length,))))
                    if len(points) == length + 1:
                        self.told(1, abs(det([minus(point, points[0]) for point in points[1:]])) % 2)

    def test_rows_that_are_put_in(self):
        # The greatest of forms of new inputs has the lot of these forms as its reading.
        for many, layers in ((2, 0), (3, 1), (5, 2), (6, 2)):
            rows = greatest_or_bar(many, layers)[1]
            network = greatest_network(many)

            def led(row):
                total = [0] * len(rows[0])
                for number, put in zip(row[:many], rows, strict=True):
                    total = [x + number * y for x, y in zip(total, put, strict=True)]
                return tuple(total) + row[many:]
            other = Network(len(rows[0]), tuple(tuple(led(row) for row in layer) for layer in network.layers),
                            led(network.last))
            reading = reading_of(other)
            self.told(layers, barred(reading))
            for _ in range(20):
                row = random_row(self.source, len(rows[0]), 9)
                self.told(max(sum(a * b for a, b in zip(put, row, strict=True)) for put in rows), told_by(other, row))

    def test_judge_of_rows(self):
        rows = ((0, 0), (1, 0), (0, 1))
        self.judges(lambda value: is_greatest_or_bar(3, 1, value), ("barred", rows))
        for right in (((0, 1), (0, 0), (1, 0)), ((5, 5), (6, 5), (5, 6)), ((0, 0), (1, 0), (-7, 1)),
                      ((0, 0), (3, 0), (1, 5)),
                      ((10 ** 99, 0), (10 ** 99 + 1, 0), (0, 1))):
            self.told(abs(det((minus(right[1], right[0]), minus(right[2], right[0])))) % 2 == 1,
                      is_greatest_or_bar(3, 1, ("barred", right)))
        for wrong in (((0, 0), (1, 0), (0, 2)), ((0, 0), (1, 0), (1, 0)), ((0, 0), (1, 1), (2, 2)), rows[:2],
                      rows + rows[:1],
                      ((0,), (1,), (1,)), ((0, 0, 0), (1, 0, 0), (0, 1, 0)), (), ((), (), ())):
            self.told(False, is_greatest_or_bar(3, 1, ("barred", wrong)))
        # Rows may come twice.
        self.told(True, is_greatest_or_bar(5, 1, ("barred", rows + rows[1:])))
        self.told(True, is_greatest_or_bar(2, 0, ("barred", ((-4,), (9,)))))
        self.told(False, is_greatest_or_bar(2, 0, ("barred", ((-4,), (8,)))))
        self.told(False, is_greatest_or_bar(4, 1, ("barred", ((0, 0), (1, 0), (0, 1), (1, 1)))))
        self.told(True, is_greatest_or_bar(4, 1, ("barred", ((0, 0), (1, 0), (0, 1), (1, 2)))))
        # With enough layers nothing is barred.
        self.told(False, is_greatest_or_bar(2, 1, ("barred", ((0, 0), (1, 0)))))
        for layers in (3, 4):
            rows = tuple(tuple(int(at == k) for k in range(2 ** layers)) for at in range(6))
            self.told(False, is_greatest_or_bar(6, layers, ("barred", rows)))

    def test_judge_of_networks(self):
        for many in range(1, 5):
            network = in_a_row(many)
            for layers in range(5):
                self.told(network.depth <= layers, is_greatest_or_bar(many, layers, ("network", network)))
        self.judges(lambda value: is_greatest_or_bar(2, 1, value), ("network", PAIR))
        for value in (("network", multiplied(PAIR, 2)), ("network", form_network((1, 0))), ("network", None),
                      ("network", polygon_network(31)), ("network", in_a_row(3)), ("network", (PAIR,)),
                      ("network", PAIR, 1), ["network", PAIR], PAIR, ("barred", PAIR), ("network", ((0, 0),))):
            self.told(False, is_greatest_or_bar(2, 1, value))
        self.told(True, is_greatest_or_bar(1, 0, ("network", form_network((1,)))))
        self.told(False, is_greatest_or_bar(2, 0, ("network", PAIR)))


class Errors(Case):

    def test_numbers(self):
        for bad in BAD_COUNTS:
            self.fails(InvalidNumber, least_layers, bad, given=bad)
            self.fails(InvalidNumber, greatest_network, bad, given=bad)
            self.fails(InvalidNumber, greatest_or_bar, bad, 1, given=bad)
            self.fails(InvalidNumber, greatest_or_bar, bad, 9, given=bad)
            self.fails(InvalidNumber, is_greatest_or_bar, bad, -3, None, given=bad)
        for bad in BAD_LAYERS:
            self.fails(InvalidNumber, greatest_or_bar, 2, bad, given=bad)
            self.fails(InvalidNumber, is_greatest_or_bar, 2, bad, None, given=bad)

    def test_networks(self):
        for bad in BAD_NETWORKS + ODD_VALUES:
            self.fails(InvalidNetwork, does_tell_greatest, bad)
        self.fails(TooMany, does_tell_greatest, polygon_network(31), limit=60)

    def test_judge_lets_each_value(self):
        for many in range(1, 7):
            for layers in range(5):
                for value in ODD_VALUES + (("barred", ()), ("barred", ((),)), ("network", ())):
                    self.told(False, is_greatest_or_bar(many, layers, value))

    def test_equal_calls(self):
        for many in range(1, 7):
            self.assertTrue(greatest_network(many) == greatest_network(many))
            for layers in range(5):
                one, other = greatest_or_bar(many, layers), greatest_or_bar(many, layers)
                self.assertTrue(one == other and (one[0] == "network" or same(one, other)))
