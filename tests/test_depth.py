"""Stage 11: depth in the plane."""

from math import gcd

from tests.helpers import ODD_VALUES, SIXTY, Case, changed, dot, lot_of, random_lot, random_row, same, value
from tests.makings import told_by
from tests.planes import plane_reading, same_functions, steps_of, way_of
from tests.test_corners import BAD_LOTS
from tests.test_fans import ring
from tests.test_least import NARROW, WIDE
from tests.test_networks import random_network
from tests.test_readings import BAD_READINGS, tells

from rampworks.errors import InvalidLot, InvalidOperation, InvalidReading, TooMany
from rampworks.hull.sums import moved, summed
from rampworks.net.networks import Network
from rampworks.net.readings import is_reading_of, reading_of
from rampworks.plane.depth import cut_up, depth_paper, is_depth_paper, least_depth, network_for, unit_counts
from rampworks.plane.least import least_reading

TRIANGLE, SQUARE = ((0, 0), (0, 1), (1, 0)), ((0, 0), (0, 1), (1, 0), (1, 1))
STICK, POINT = ((0, 0), (1, 1)), ((0, 0),)
PEAK, FLAT = (TRIANGLE, POINT), (((0, 0), (1, 0)), ((0, 0), (0, 1)))


def bends_by_rows(reading):
    """By how much the function bends along which rows."""
    steps, others = steps_of(reading[0]), steps_of(reading[1])
    told = {row: steps.get(row, 0) - others.get(row, 0) for row in {**steps, **others}}
    return {row: c for row, c in told.items() if c != 0}


def depth_by_words(reading):
    bends = bends_by_rows(reading)
    if not bends:
        return 0
    return 1 if all(bends.get((-row[0], -row[1]), 0) == c for row, c in bends.items()) else 2


def stick_reading(source, many, size=3):
    """A reading whose function has one layer."""
    lots = [((0, 0),), ((0, 0),)]
    for _ in range(many):
        row = random_row(source, 2, size)
        at = source.randrange(2)
        lots[at] = summed(lots[at], lot_of([(0, 0), row]))
    return moved(lots[0], random_row(source, 2, 9)), lots[1]


def convex(many):
    """A lot with so many corners no two edges of which lie along one line."""
    return lot_of((k, k * k) for k in range(many))


def tells_the_function(test, network, reading, source):
    """Looks at both at all rays at which one of them can bend, at all axes, and between these."""
    rows = [(1, 0), (0, 1), (-1, 0), (0, -1)]
    for lot in reading:
        for row in steps_of(lot):
            rows.append((row[1], -row[0]))
    units = [unit[:2] for unit in network.units]
    rows += [(-y, x) for x, y in units] + [(y, -x) for x, y in units]
    rows += [random_row(source, 2, 50) for _ in range(10)]
    for row in rows:
        test.told(tells(reading, row), told_by(network, row))


class CutUp(Case):

    def test_values(self):
        for _ in range(80):
            lot = random_lot(self.source, self.source.randint(1, 9), 2, self.source.choice((1, 2, 5, SIXTY)))
            above, below = cut_up(lot)
            way = way_of(lot)
            if len(way) < 3:
                self.told(((lot_of(way),), ()), (above, below))
                continue
            self.told((len(way) - 2, len(way) - 3), (len(above), len(below)))
            for at, triangle in enumerate(above):
                self.told(lot_of([way[0], way[at + 1], way[at + 2]]), triangle)
            for at, pair in enumerate(below):
                self.told(lot_of([way[0], way[at + 2]]), pair)
            for _ in range(10):
                row = random_row(self.source, 2, 9)
                self.told(value(lot, row),
                          sum(value(part, row) for part in above) - sum(value(part, row) for part in below))

    def test_known(self):
        self.told(((((0, 0), (1, 0), (1, 1)), ((0, 0), (0, 1), (1, 1))), (((0, 0), (1, 1)),)), cut_up(SQUARE))
        self.told(((((0, 0), (2, 2)),), ()), cut_up(((0, 0), (1, 1), (2, 2))))
        self.told(((POINT,), ()), cut_up(POINT))
        self.told(((TRIANGLE,), ()), cut_up(TRIANGLE))
        self.told((398, 397), tuple(len(part) for part in cut_up(ring(7))))


class Counts(Case):

    def test_by_least_readings(self):
        def counts(many):
            return (2 * many - 5, many - 2) if many > 2 else ((0, 0), (1, 0))[many - 1]
        for _ in range(60):
            reading = plane_reading(self.source, 7, 3)
            found = least_reading(reading)
            sides = [counts(len(lot)) for lot in found]
            self.told((sides[0][0] + sides[1][0], sides[0][1] + sides[1][1]), unit_counts(reading))
            for other in same_functions(self.source, reading)[0]:
                self.told(unit_counts(reading), unit_counts(other))
        self.told([(1, 1), (3, 2), (0, 0), (1, 0), (2, 0)], [unit_counts(reading) for reading in (
            PEAK, (SQUARE, POINT), (POINT, POINT), (STICK, POINT), FLAT)])

    def test_great_ones(self):
        self.told((795, 398), unit_counts((ring(7), POINT)))
        self.told((1590, 796), unit_counts((ring(7), ring(11))))


class Depth(Case):

    def test_by_words(self):
        kinds = {0: 0, 1: 0, 2: 0}
        for at in range(200):
            reading = plane_reading(self.source, 5, 2)
            if at % 3 == 1:
                reading = stick_reading(self.source, self.source.randint(0, 4))
            if at % 3 == 2:
                reading = same_functions(self.source, stick_reading(self.source, 3))[0][0]
            depth = least_depth(reading)
            kinds[depth] += 1
            self.told(depth_by_words(reading), depth)
            self.told(depth, network_for(reading).depth)
            self.told(depth, {"form": 0, "planes": 1, "unlike": 2}[depth_paper(reading)[0]])
        self.assertGreater(min(kinds.values()), 3)

    def test_known(self):
        self.told([2, 1, 1, 0], [least_depth(reading) for reading in (PEAK, FLAT, (SQUARE, POINT), (((2, 3),), POINT))])
        # From 0 on, with bends, and one layer; six rays, and one layer.
        hexagon = summed(SQUARE, STICK)
        self.told((1, 1), (least_depth((STICK, POINT)), least_depth((hexagon, POINT))))
        self.told(0, least_depth((hexagon, hexagon)))
        # A sum of two with the least depth 2.
        self.told(1, least_depth((summed(TRIANGLE, ((-1, 0), (0, -1), (0, 0))), POINT)))

    def test_networks_of_few_layers(self):
        for _ in range(60):
            depth = self.source.randint(0, 2)
            network = random_network(self.source, 2, [self.source.randint(1, 3) for _ in range(depth)], 3, 0.2)
            reading = reading_of(network)
            self.assertLessEqual(least_depth(reading), depth)


class Papers(Case):

    def test_right_by_sums(self):
        for at in range(150):
            reading = plane_reading(self.source, 5, 2)
            if at % 2:
                reading = stick_reading(self.source, self.source.randint(0, 3))
            paper = depth_paper(reading)
            bends = bends_by_rows(reading)
            self.told(True, is_depth_paper(reading, paper))
            if paper[0] == "unlike":
                _, ray, one, other = paper
                self.told(1, gcd(*ray))
                self.told((one, other), (bends.get((-ray[1], ray[0]), 0), bends.get((ray[1], -ray[0]), 0)))
                self.assertNotEqual(one, other)
            else:
                planes = paper[2] if paper[0] == "planes" else ()
                self.told(paper[0] == "planes", len(planes) > 0)
                self.told(tuple(sorted(planes)), planes)
                for _ in range(10):
                    row = random_row(self.source, 2, 9)
                    ramps = sum(c * max(0, dot(line, row)) for line, c in planes)
                    self.told(tells(reading, row), dot(paper[1], row) + ramps)
            for other in same_functions(self.source, reading)[0]:
                self.told(True, is_depth_paper(other, paper))

    def test_judge_of_forms(self):
        reading = (((2, 3), ), POINT)
        self.judges(lambda value: is_depth_paper(reading, value), ("form", (2, 3)))
        self.refuses_all(lambda value: is_depth_paper(reading, value), changed(("form", (2, 3))))
        self.told(False, is_depth_paper(reading, ("planes", (2, 3), ())))
        self.told(False, is_depth_paper(FLAT, ("form", (0, 0))))

    def test_judge_of_planes(self):
        paper = ("planes", (0, 0), (((0, 1), -1), ((1, 0), 1)))
        self.judges(lambda value: is_depth_paper(FLAT, value), paper)
        self.refuses_all(lambda value: is_depth_paper(FLAT, value), changed(paper))
        for planes in ((((1, 0), 1), ((0, 1), -1)), (((0, 1), -1), ((1, 0), 1), ((1, 1), 0)), (((0, 1), -1),),
                       (((0, 1), -1), ((-1, 0), 1)), (((0, 1), -1), ((2, 0), 1))):
            self.told(False, is_depth_paper(FLAT, ("planes", (0, 0), planes)))
        # The form can be other than 0 for ramps of opposite rows, but these have no head above 0.
        self.told(False, is_depth_paper(FLAT, ("planes", (1, 0), (((-1, 0), 1), ((0, 1), -1)))))
        self.told(False, is_depth_paper(PEAK, paper))

    def test_judge_of_unlike_bends(self):
        self.judges(lambda value: is_depth_paper(PEAK, value), ("unlike", (1, 1), 1, 0))
        right = {((1, 1), 1, 0), ((-1, -1), 0, 1), ((-1, 0), 1, 0), ((1, 0), 0, 1), ((0, -1), 1, 0), ((0, 1), 0, 1)}
        for x in range(-2, 3):
            for y in range(-2, 3):
                for one in (-1, 0, 1):
                    for other in (-1, 0, 1):
                        self.told(((x, y), one, other) in right, is_depth_paper(PEAK, ("unlike", (x, y), one, other)))
        self.told(False, is_depth_paper((SQUARE, POINT), ("unlike", (1, 0), 1, 1)))
        self.told(False, is_depth_paper((SQUARE, POINT), ("unlike", (1, 0), 1, 0)))


class Networks(Case):

    def test_right_by_sums(self):
        for at in range(150):
            reading = plane_reading(self.source, 8, self.source.choice((1, 3, 20)))
            if at % 3 == 0:
                reading = stick_reading(self.source, self.source.randint(0, 5))
            network = network_for(reading)
            self.told((2, depth_by_words(reading)), (network.inputs, network.depth))
            tells_the_function(self, network, reading, self.source)
            try:
                self.told(True, is_reading_of(network, reading))
            except TooMany as error:
                self.told(60, error.limit)
            counts = unit_counts(reading)
            if network.depth == 2:
                self.assertLessEqual(len(network.layers[0]), counts[0])
                self.assertLessEqual(len(network.layers[1]), counts[1])

    def test_known(self):
        self.told(2, network_for(PEAK).depth)
        self.assertEqual(Network(2, (), (2, 3)), network_for((((2, 3),), POINT)))
        self.told(0, network_for((ring(7), ring(7))).depth)

    def test_most_units(self):
        # 2 p - 5 units in the first layer.
        network = network_for((convex(34), POINT))
        tells_the_function(self, network, (convex(34), POINT), self.source)
        self.fails(TooMany, network_for, (convex(35), POINT), limit=64)
        self.fails(TooMany, network_for, (POINT, convex(35)), limit=64)
        for parts in ((19, 18), (34, 3)):
            reading = (convex(parts[0]), moved_off(parts[1]))
            self.told(True, unit_counts(reading)[0] <= 64)
            tells_the_function(self, network_for(reading), reading, self.source)
        self.fails(TooMany, network_for, (convex(20), moved_off(20)), limit=64)
        self.told((70, 36), unit_counts((convex(20), moved_off(20))))

    def test_most_planes(self):
        def sticks(many):
            lot = POINT
            for k in range(many):
                lot = summed(lot, ((0, 0), (1, k)))
            return lot
        network = network_for((sticks(64), POINT))
        self.told((1, 64), (network.depth, len(network.units)))
        tells_the_function(self, network, (sticks(64), POINT), self.source)
        network = network_for((sticks(64), sticks(64)))
        self.told(0, network.depth)
        for reading in ((sticks(65), POINT), (POINT, sticks(65))):
            self.fails(TooMany, network_for, reading, limit=64)
            self.told(1, least_depth(reading))
            self.told("planes", depth_paper(reading)[0])

    def test_forty_digits(self):
        forty = 10 ** 40 - 1
        for _ in range(20):
            reading = tuple(random_lot(self.source, 6, 2, forty) for _ in range(2))
            network = network_for(reading)
            for _ in range(10):
                row = random_row(self.source, 2, SIXTY)
                self.told(tells(reading, row), told_by(network, row))
        self.assertEqual(Network(2, (), (forty, -forty)), network_for((((forty, -forty),), POINT)))
        self.told(2, network_for((lot_of([(0, 0), (forty, 1), (1, forty)]), POINT)).depth)
        for reading in ((((0, 10 ** 40),), POINT), (POINT, ((-10 ** 40, 0),)), (POINT, ((-10 ** 40, 0), (0, 0)))):
            self.fails(InvalidOperation, network_for, reading)
            self.told(least_depth(reading), depth_by_words(reading))
        # Also a point that is no corner; ahead of too many units.
        self.fails(InvalidOperation, network_for, (((0, 0), (10 ** 40, 0), (2 * 10 ** 40, 0)), POINT))
        long = tuple((x * 10 ** 39, y * 10 ** 39) for x, y in convex(40))
        self.fails(InvalidOperation, network_for, (long, POINT))


def moved_off(many):
    """A lot of so many corners that has its edges along others than `convex` has."""
    return lot_of((-k * k - 3 * k, -2 * k) for k in range(many))


class Errors(Case):

    def test_lots(self):
        for bad in BAD_LOTS + ODD_VALUES:
            self.fails(InvalidLot, cut_up, bad)
        for lot in (((0,), (1,)), ((1, 2, 3),)):
            self.fails(InvalidOperation, cut_up, lot)

    def test_readings(self):
        for call in (unit_counts, least_depth, depth_paper, network_for, lambda value: is_depth_paper(value, None)):
            for bad in BAD_READINGS:
                self.fails(InvalidReading, call, bad)
            for reading in (NARROW, WIDE, (((10 ** 41,),), ((0,),))):
                self.fails(InvalidOperation, call, reading)

    def test_judge_lets_each_value(self):
        for reading in (PEAK, FLAT, (POINT, POINT)):
            for value in ODD_VALUES + (("form", [0, 0]), ("planes", (0, 0), None), ("unlike", None, 1, 0),
                                       ("unlike", (1, 1), None, 0),
                                       ("unlike", (1, 1), 1, False), ("unlike", [1, 1], 1, 0), ("planes", None, ())):
                self.told(False, is_depth_paper(reading, value))

    def test_equal_calls(self):
        for reading in (PEAK, FLAT, (SQUARE, STICK)):
            self.assertTrue(same(depth_paper(reading), depth_paper(reading)))
            self.assertTrue(network_for(reading) == network_for(reading))
