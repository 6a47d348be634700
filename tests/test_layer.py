"""Stage 14: one layer."""

from itertools import product
from math import gcd

from tests.helpers import (
    ODD_VALUES, SIXTY, Case, changed, dot, longest, lot_of, minus, moments, plus, random_lot, random_row, same, spoilt)
from tests.makings import told_by
from tests.test_networks import random_network
from tests.test_readings import BAD_READINGS, random_reading, tells
from tests.test_sticks import across, length_at, stick_row

from rampworks.errors import InvalidOperation, InvalidReading, Refused, TooMany
from rampworks.hull.corners import corners
from rampworks.hull.sums import moved, summed
from rampworks.net.networks import Network, form_network
from rampworks.net.readings import do_agree, reading_of
from rampworks.stick.layer import bend_at, bends, is_layer_or_places, is_place, layer_or_places, least_units
from rampworks.stick.sticks import made_by, sticks_or_plate

TRIANGLE, SQUARE = ((0, 0), (0, 1), (1, 0)), ((0, 0), (0, 1), (1, 0), (1, 1))
STICK, POINT = ((0, 0), (1, 1)), ((0, 0),)
PEAK, BOX = (TRIANGLE, POINT), (SQUARE, POINT)
FIVE = (((0, 0, 0, 0, 0), (1, 1, 1, 1, 1)), ((0, 0, 0, 0, 0),))


def bend_by_hand(reading, row, y):
    """By how much the function bends; None if it is no place."""
    above, below = (length_at(lot, row, y) for lot in reading)
    return None if above is None or below is None else above - below


def bend_by_values(reading, row, y):
    """By how much it bends, by values alone: those a little way to both sides of y."""
    far = tuple(10 ** 12 * x for x in y)
    side = dot(row, row)
    up, down = tells(reading, plus(far, row)), tells(reading, minus(far, row))
    return (up + down - 2 * tells(reading, far)) // side, (up + down - 2 * tells(reading, far)) % side


def shade_of(point, row):
    """The point seen along the row, in one member less."""
    at = next(k for k, x in enumerate(row) if x)
    return tuple(row[at] * point[k] - row[k] * point[at] for k in range(len(row)) if k != at)


def range_by_shadows(reading, row):
    """The least and the greatest bend along the row, by the corners of the sum of both shadows."""
    at, lengths = next(k for k, x in enumerate(row) if x), [{}, {}]
    for lot, found in zip(reading, lengths, strict=True):
        for point in lot:
            found.setdefault(shade_of(point, row), []).append(point[at])
    sums = {plus(one, other): (one, other) for one in lengths[0] for other in lengths[1]}
    tips = corners(lot_of(sums)) if len(row) > 1 else lot_of(sums)
    told = []
    for tip in tips:
        above, below = (found[shade] for found, shade in zip(lengths, sums[tip], strict=True))
        told.append((max(above) - min(above) - max(below) + min(below)) // row[at])
    return min(told), max(told)


def layer_reading(source, length, many, size=2):
    """A reading whose function has one layer, and the bundle of its planes, with numbers below 0, too."""
    planes = {}
    for _ in range(many):
        planes[stick_row(source, length, size)] = source.choice((-3, -2, -1, 1, 2, 3))
    lots = []
    for sign in (1, -1):
        bundle = tuple((row, sign * planes[row]) for row in sorted(planes) if sign * planes[row] > 0)
        lots.append(made_by((0,) * length, bundle))
    form = random_row(source, length, 5)
    return (moved(lots[0], form), lots[1]), form, planes


def spread(source, reading):
    """Another reading of the function."""
    length = len(reading[0][0])
    third, row = random_lot(source, source.randint(1, 3), length, 1), random_row(source, length, 5)
    return tuple(moved(summed(lot, third), row) for lot in reading)


class Places(Case):

    def test_by_words(self):
        kinds = {True: 0, False: 0}
        for _ in range(300):
            length = self.source.randint(1, 4)
            reading = random_reading(self.source, length, 5, 2)
            row = stick_row(self.source, length, 1)
            y = across(self.source, row, 1)[0]
            if self.source.random() < 0.3:
                y = tuple(x // 9 for x in y)
            expected = dot(row, y) == 0 and bend_by_hand(reading, row, y) is not None
            kinds[expected] += 1
            self.told(expected, is_place(reading, (row, y)))
            if expected:
                found = bend_at(reading, (row, y))
                self.told(bend_by_hand(reading, row, y), found)
                self.told((found, 0), bend_by_values(reading, row, y))
            else:
                self.fails(InvalidOperation, bend_at, reading, (row, y))
        self.assertGreater(min(kinds.values()), 40)

    def test_one_member(self):
        reading = (((0,), (2,), (7,)), ((-1,), (4,)))
        self.told(2, bend_at(reading, ((1,), (0,))))
        for place in (((1,), (1,)), ((-1,), (0,)), ((2,), (0,)), ((0,), (0,)), ((1,), (0, 0)), ((1,),)):
            self.told(False, is_place(reading, place))
        self.told((((1,), 2, 2),), bends(reading))
        self.told((), bends((((0,), (5,)), ((3,), (8,)))))

    def test_known(self):
        self.told(True, is_place(PEAK, ((1, 0), (0, -1))))
        self.told((1, 0), (bend_at(PEAK, ((1, 0), (0, -1))), bend_at(PEAK, ((1, 0), (0, 1)))))
        self.told(False, is_place(PEAK, ((1, 0), (0, 0))))
        # All points are on a line along the row.
        self.told(True, is_place((STICK, POINT), ((1, 1), (0, 0))))
        self.told(1, bend_at((STICK, POINT), ((1, 1), (0, 0))))
        self.told(False, is_place((STICK, POINT), ((1, 0), (0, 0))))
        self.told(-2, bend_at((POINT, ((0, 0), (0, 2))), ((0, 1), (5, 0))))
        # The greatest points of Q must lie on a line along the row, too.
        self.told(False, is_place((POINT, TRIANGLE), ((1, 0), (0, 0))))

    def test_judge(self):
        self.judges(lambda value: is_place(PEAK, value), ((1, 0), (0, -1)))
        for y in ((0, -7), (0, 10 ** 99), (0, 3)):
            self.told(True, is_place(PEAK, ((1, 0), y)))
        for place in (((1, 0), (1, -1)), ((2, 0), (0, -1)), ((-1, 0), (0, -1)), ((0, 0), (0, -1)),
                      ((1, 0, 0), (0, 1, 0)),
                      ((1, 0), (0, -1), ()), [(1, 0), (0, -1)], ((1, 0), [0, -1])):
            self.told(False, is_place(PEAK, place))
            self.fails(InvalidOperation, bend_at, PEAK, place)


class Bends(Case):

    def test_by_many_places(self):
        for _ in range(80):
            length = self.source.randint(1, 4)
            reading = random_reading(self.source, length, 4 if length > 2 else 6, 2)
            if self.source.random() < 0.3:
                reading = layer_reading(self.source, length, 3, 1)[0]
            found = bends(reading)
            self.told(tuple(sorted(found)), found)
            told = {row: (least, most) for row, least, most in found}
            rows = set(told)
            for lot in reading:
                for one, other in product(corners(lot), repeat=2):
                    if one < other:
                        lead = minus(other, one)
                        rows.add(tuple(x // gcd(*lead) for x in lead))
            for row in rows:
                self.told(told.get(row, (0, 0)), range_by_shadows(reading, row))
                for y in across(self.source, row, 10):
                    bend = bend_by_hand(reading, row, y)
                    self.assertTrue(bend is None or told.get(row, (0, 0))[0] <= bend <= told.get(row, (0, 0))[1])

    def test_one_for_all_readings(self):
        for _ in range(30):
            length = self.source.randint(1, 3)
            reading = random_reading(self.source, length, 4, 2)
            self.told(bends(reading), bends(spread(self.source, reading)))

    def test_known(self):
        self.told((((0, 1), 1, 1), ((1, 0), 1, 1)), bends(BOX))
        self.told((((0, 1), 0, 1), ((1, -1), 0, 1), ((1, 0), 0, 1)), bends(PEAK))
        self.told((((0, 1), -1, 0), ((1, -1), -1, 0), ((1, 0), -1, 0)), bends(PEAK[::-1]))
        self.told((), bends((TRIANGLE, TRIANGLE)))
        self.told((((1, 1), -1, -1),), bends((POINT, STICK)))
        self.told((((1, 0), -2, -2),), bends((((0, 0), (1, 0)), ((0, 0), (3, 0)))))


class Either(Case):

    def test_layers(self):
        for _ in range(100):
            length = self.source.randint(1, 4)
            reading, form, planes = layer_reading(self.source, length, self.source.randint(0, 4))
            if self.source.random() < 0.5 and length < 4:
                reading = spread(self.source, reading)
                form = None
            try:
                found = layer_or_places(reading)
            except TooMany as error:
                self.told(60, error.limit)
                continue
            self.told("layer", found[0])
            network = found[1]
            self.told((length, len(planes)), (network.inputs, len(network.units)))
            self.told(1 if planes else 0, network.depth)
            for _ in range(12):
                row = random_row(self.source, length, 9)
                self.told(tells(reading, row), told_by(network, row))
            self.told(len(planes), least_units(reading))
            self.told(True, is_layer_or_places(reading, found))
            self.told(tuple((row, c, c) for row, c in sorted(planes.items())), bends(reading))

    def test_right_by_sums(self):
        kinds = {"layer": 0, "places": 0}
        for at in range(150):
            length = self.source.randint(1, 4)
            reading = random_reading(self.source, length, 4, 2)
            if at % 3 == 0:
                reading = layer_reading(self.source, length, 2)[0]
            found = layer_or_places(reading)
            kinds[found[0]] += 1
            self.told(True, is_layer_or_places(reading, found))
            if found[0] == "layer":
                for _ in range(10):
                    row = random_row(self.source, length, 9)
                    self.told(tells(reading, row), told_by(found[1], row))
            else:
                _, one, other = found
                self.told(one[0], other[0])
                told = [bend_by_hand(reading, *place) for place in (one, other)]
                self.assertNotIn(None, told)
                self.assertNotEqual(*told)
                with self.assertRaises(Refused) as caught:
                    least_units(reading)
                reason = caught.exception.reason
                self.told(("places", 3), (reason[0], len(reason)))
                self.told(True, is_layer_or_places(reading, reason))
        self.assertGreater(min(kinds.values()), 40)

    def test_networks_of_one_layer(self):
        for _ in range(60):
            inputs = self.source.randint(1, 4)
            network = random_network(self.source, inputs, [self.source.randint(1, 4)], 3, 0.2)
            reading = reading_of(network)
            found = layer_or_places(reading)
            self.told("layer", found[0])
            self.assertLessEqual(len(found[1].units), len(network.units))
            self.told(True, do_agree(reading, reading_of(found[1])))

    def test_alone(self):
        # A lot's value has one layer exactly if it is a sum of sticks.
        for _ in range(60):
            length = self.source.randint(1, 4)
            lot = random_lot(self.source, self.source.randint(1, 5), length, 2)
            if self.source.random() < 0.5:
                lot = layer_reading(self.source, length, 3, 1)[0][0]
            self.told({"sticks": "layer", "plate": "places"}[sticks_or_plate(lot)[0]],
                      layer_or_places((lot, ((0,) * length,)))[0])
        # One layer, though neither lot is a sum of sticks.
        reading = (summed(TRIANGLE, SQUARE), TRIANGLE)
        self.told(("plate", "plate", "layer"), (
            sticks_or_plate(reading[0])[0], sticks_or_plate(reading[1])[0], layer_or_places(reading)[0]))

    def test_judge_of_layers(self):
        box = Network(2, (((1, 0), (0, 1)),), (0, 0, 1, 1))
        self.judges(lambda value: is_layer_or_places(BOX, value), ("layer", box))
        for network in (Network(2, (((0, 1), (1, 0)),), (0, 0, 1, 1)), Network(2, (((-1, 0), (0, 1)),), (1, 0, 1, 1)),
                        Network(2, (((-1, 0), (0, -1)),), (1, 1, 1, 1))):
            self.told(True, is_layer_or_places(BOX, ("layer", network)))
        for network in (
                Network(2, (((1, 0), (0, 1), (0, 0)),), (0, 0, 1, 1, 0)), Network(2, (((1, 0), (0, 1)),), (0, 0, 1, 2)),
                Network(2, (((1, 0), (0, 1)), ((0, 0, 1, 1),)), (0, 0, 0, 0, 1)),
                Network(2, (((2, 0), (0, 1)),), (0, 0, 1, 1)),
                Network(2, (((1, 0), (0, 1)),), (1, 0, 1, 1)), Network(2, (((1, 0),),), (0, 1, 1)),
                form_network((1, 1)),
                Network(2, (((1, 0), (1, 0), (0, 1)),), (0, 0, 2, -1, 1)),
                Network(2, (((1, 0), (0, 1)),), (0, 0, 1, 0)),
                Network(1, (((1,), (-1,)),), (0, 1, 1)), Network(3, (((1, 0, 0), (0, 1, 0)),), (0, 0, 0, 1, 1))):
            self.told(False, is_layer_or_places(BOX, ("layer", network)))
        # A row other than primitive, and as few units.
        double = (((0, 0), (4, 2)), POINT)
        for network in (Network(2, (((4, 2),),), (0, 0, 1)), Network(2, (((2, 1),),), (0, 0, 2)),
                        Network(2, (((-4, -2),),), (4, 2, 1))):
            self.told(True, is_layer_or_places(double, ("layer", network)))
        self.told(False, is_layer_or_places(double, ("layer", Network(2, (((2, 1), (2, 1)),), (0, 0, 1, 1)))))
        self.told(True, is_layer_or_places((STICK, STICK), ("layer", form_network((0, 0)))))
        self.told(False, is_layer_or_places((STICK, STICK), ("layer", Network(2, (((1, 1),),), (0, 0, 0)))))
        self.told(False, is_layer_or_places((STICK, STICK), ("layer", form_network((0, 1)))))
        self.told(False, is_layer_or_places(PEAK, ("layer", box)))
        # One whose reading is refused.
        many = Network(2, (tuple((1, k) for k in range(31)),), (0, 0) + (1,) * 31)
        self.told(False, is_layer_or_places(BOX, ("layer", many)))

    def test_judge_of_places(self):
        paper = ("places", ((1, 0), (0, -1)), ((1, 0), (0, 1)))
        self.judges(lambda value: is_layer_or_places(PEAK, value), paper)
        for value in (("places", paper[2], paper[1]), ("places", ((1, 0), (0, -9)), ((1, 0), (0, 10 ** 99))),
                      ("places", ((1, -1), (1, 1)), ((1, -1), (-3, -3)))):
            self.told(True, is_layer_or_places(PEAK, value))
        for value in (("places", paper[1], paper[1]), ("places", paper[1], ((0, 1), (1, 0))), ("places", paper[1]),
                      ("places", paper[1], ((1, 0), (0, 0))), ("places", ((1, 0), (0, -2)), ((1, 0), (0, -1)))):
            self.told(False, is_layer_or_places(PEAK, value))
        self.told(False, is_layer_or_places(BOX, paper))
        for value in changed(paper):
            one, other = value[1], value[2]
            right = all(dot(*place) == 0 and gcd(*place[0]) == 1 and place[0] > (0, 0) for place in (one, other))
            told = [bend_by_hand(PEAK, *place) if right else None for place in (one, other)]
            self.told(one[0] == other[0] and None not in told and told[0] != told[1], is_layer_or_places(PEAK, value))


def parallel(points):
    """How many pairs of the points have a row that an earlier pair has."""
    rows = [minus(other, one) for at, one in enumerate(points) for other in points[at + 1:]]
    return len(rows) - len({tuple(x // gcd(*row) for x in row) for row in rows})


class Bounds(Case):

    def test_sixty_corners(self):
        for length in (2, 3, 4):
            flat = ((0,) * length,)
            curve = moments(60, length)
            found = layer_or_places((curve, flat))
            self.told("places", found[0])
            told = [bend_by_hand((curve, flat), *place) for place in found[1:]]
            self.assertNotEqual(*told)
            if length == 4:
                # Each two corners of this curve are an edge.
                self.told(60 * 59 // 2, sum(1 for _ in bends((curve, flat))) + parallel(curve))
            more = moments(61, length)
            for call in (bends, layer_or_places, least_units, lambda value: is_layer_or_places(value, None)):
                self.fails(TooMany, call, (more, flat), limit=60)
                self.fails(TooMany, call, (flat, more), limit=60)
        # P and Q with few corners, their sum with more.
        one, other = moments(30, 2), lot_of((-k * k - 3 * k, -2 * k) for k in range(31))
        self.told(61, len(summed(one, other)))
        for call in (bends, layer_or_places, least_units, lambda value: is_layer_or_places(value, None)):
            self.fails(TooMany, call, (one, other), limit=60)
        found = bends((one, other[:-1]))
        self.assertGreater(len(found), 50)
        # Places are told without bounds on corners.
        self.told(True, is_place((moments(400, 2), POINT), ((0, 1), (1, 0))))

    def test_great_layers(self):
        bundle = tuple(((1, k), k + 1) for k in range(30))
        reading = (made_by((0, 0), bundle), POINT)
        found = layer_or_places(reading)
        self.told(("layer", 30), (found[0], len(found[1].units)))
        self.told(30, least_units(reading))
        bundle = tuple(((1, k, k * k), 2) for k in range(8))
        self.told(8, least_units((((5, 5, 5),), made_by((1, 2, 3), bundle))))
        bundle = tuple(((1, k, k * k, k ** 3), 2) for k in range(6))
        self.told(6, least_units((made_by((1, 2, 3, 4), bundle), ((9, 9, 9, 9),))))

    def test_thirty_digits(self):
        thirty = 10 ** 30 - 1
        for _ in range(20):
            length = self.source.randint(1, 3)
            reading = tuple(random_lot(self.source, 3, length, thirty) for _ in range(2))
            found = layer_or_places(reading)
            self.told(True, is_layer_or_places(reading, found))
        long = (((0, 0), (thirty, 0)), ((0, -thirty), (0, thirty)))
        found = layer_or_places(long)
        self.told(2, len(found[1].units))
        for reading in ((((10 ** 30, 0),), POINT), (POINT, ((0, -10 ** 30),)),
                        (((0, 0), (10 ** 30, 1), (2 * 10 ** 30, 2)), POINT)):
            self.fails(TooMany, layer_or_places, reading, limit=10 ** 30)
            self.told(len(bends(reading)), least_units(reading))
            self.told(False, is_layer_or_places(reading, None))
        # Behind all others.
        far = tuple((x * 10 ** 30, y) for x, y in moments(61, 2))
        self.fails(TooMany, layer_or_places, (far, POINT), limit=60)

    def test_fifty_digits(self):
        for length in (2, 3, 4):
            for _ in range(10):
                reading = tuple(random_lot(self.source, 4, length, 99999) for _ in range(2))
                found = layer_or_places(reading)
                self.told("places", found[0])
                self.assertLessEqual(longest(found), 50)
                self.told(True, is_layer_or_places(reading, found))

    def test_two_new_inputs_are_not_enough(self):
        # Along one row it bends by one number at two places, and by another one at a third place.
        found = bends((summed(((0, 0, 0), (0, 0, 1)), lot_of([(0, 0, 0), (0, 1, 0), (1, 0, 0)])), ((0, 0, 0),)))
        told = {row: (least, most) for row, least, most in found}
        self.told((1, 1), told[(0, 0, 1)])
        self.told((0, 1), told[(0, 1, 0)])


class Errors(Case):

    def test_readings(self):
        calls = (lambda value: is_place(value, None), lambda value: bend_at(value, None), bends, layer_or_places,
                 lambda value: is_layer_or_places(value, None), least_units)
        for call in calls:
            for bad in BAD_READINGS:
                self.fails(InvalidReading, call, bad)
            self.fails(InvalidOperation, call, FIVE)
        many = moments(100, 5), ((0,) * 5,)
        for call in calls:
            self.fails(InvalidOperation, call, many)

    def test_places(self):
        for bad in ODD_VALUES + tuple(spoilt(((1, 0), (0, -1)))) + (
                ((1, 0), (0, SIXTY + 1)), ((SIXTY + 1, 0), (0, 1)), ((1, 0), (0, 0)), ((1, 0), (1, 0))):
            self.fails(InvalidOperation, bend_at, PEAK, bad)
        self.told(0, bend_at(PEAK, ((1, 0), (0, SIXTY))))
        self.told(True, is_place(PEAK, ((1, 0), (0, SIXTY + 1))))

    def test_what_refusals_keep(self):
        with self.assertRaises(Refused) as caught:
            least_units(PEAK)
        word, one, other = caught.exception.reason
        self.told(("places", True, True), (word, is_place(PEAK, one), is_place(PEAK, other)))
        self.assertNotEqual(bend_at(PEAK, one), bend_at(PEAK, other))
        self.told(one[0], other[0])

    def test_judges_let_each_value(self):
        for reading in (PEAK, BOX, (((1,), (2,)), ((0,),))):
            for value in ODD_VALUES + (("layer", None), ("layer", ()), ("places", None, None), ("places", (), ())):
                self.told(False, is_place(reading, value))
                self.told(False, is_layer_or_places(reading, value))

    def test_equal_calls(self):
        for reading in (PEAK, BOX):
            self.assertTrue(same(bends(reading), bends(reading)))
            self.assertTrue(layer_or_places(reading) == layer_or_places(reading))
