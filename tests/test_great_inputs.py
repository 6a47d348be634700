"""Inputs that took long once: the answers are right by sums of the test's own."""

from itertools import combinations

from tests.helpers import Case, det, dot, minus, plus, random_row, scale

from rampworks.errors import TooMany
from rampworks.hull.corners import corners
from rampworks.hull.sums import edges
from rampworks.net.networks import added, form_network, greater, multiplied, value_of
from rampworks.net.readings import is_network_of, network_of, reading_of

PARABOLA = tuple((at, at * at) for at in range(60))
LINE = tuple((at, 2 * at, -at) for at in range(400))


def curve(many):
    return tuple((at, at ** 2, at ** 3, at ** 4) for at in range(many)), ((0, 0, 0, 0),)


def cornering(network, row):
    """One corner of each lot that is reckoned for the network: P, Q and, for units, the join, of each row in turn.

    Ties are told by the points themselves, so that one order, which sums keep, picks all of them.
    """
    length, steps = network.inputs, []
    parts = [(tuple(int(k == at) for k in range(length)), (0,) * length) for at in range(length)]
    for unit in (*network.units, network.last):
        sides = [(0,) * length, (0,) * length]
        for number, part in zip(unit, parts):
            for side in (0, 1):
                if number != 0:
                    sides[side] = plus(sides[side], scale(part[side if number > 0 else 1 - side], abs(number)))
        above = max(sides, key=lambda point: (dot(point, row), point))
        steps.extend([*sides, above])
        parts.append((above, sides[1]))
    return steps[:-1]


def bending(source):
    """A row whose products with the points of the curve, one behind the other, rise and fall up to four times."""
    numbers = [1.0]
    for _ in range(source.randint(1, 4)):
        root = source.uniform(-1, 10)
        numbers = [x - root * y for x, y in zip([0.0, *numbers], [*numbers, 0.0], strict=True)]
    size = source.choice((10 ** 6, -10 ** 6))
    return tuple(round(size * x) for x in (numbers + [0.0] * 5)[1:5])


class GreatInputs(Case):

    def test_edges_of_sixty_corners(self):
        found = edges(PARABOLA)
        self.told(tuple(sorted([(at, at + 1) for at in range(59)] + [(0, 59)])), found)
        for one, other in combinations(range(60), 2):
            begin, end = PARABOLA[one], PARABOLA[other]
            lead = minus(end, begin)
            sides = {det((lead, minus(point, begin))) > 0 for point in PARABOLA if point not in (begin, end)}
            # An edge has all other corners on one side.
            self.told(len(sides) == 1, (one, other) in found)

    def test_corners_of_points_on_a_line(self):
        self.told((LINE[0], LINE[-1]), corners(LINE))
        for at in (1, 200, 398):
            self.told(scale(LINE[at], 399), plus(scale(LINE[0], 399 - at), scale(LINE[-1], at)))

    def test_network_of_ten_is_refused(self):
        self.fails(TooMany, network_of, curve(10), limit=60)
        # The tree of the ten forms has a lot with more than sixty corners.
        level = [form_network(point) for point in curve(10)[0]]
        while len(level) > 1:
            pairs = [greater(level[at], level[at + 1]) for at in range(0, len(level) - 1, 2)]
            level = pairs + level[2 * len(pairs):]
        network = added(level[0], multiplied(form_network((0, 0, 0, 0)), -1))
        found = [set() for _ in range(3 * (len(network.units) + 1) - 1)]
        for _ in range(3000):
            row = bending(self.source)
            for lot, point in zip(found, cornering(network, row), strict=True):
                lot.add(point)
        self.assertGreater(max(len(lot) for lot in found), 60)

    def test_network_and_reading_of_less(self):
        for many in (6, 8, 9):
            reading = curve(many)
            network = network_of(reading)
            self.told(True, is_network_of(reading, network))
            lots = reading_of(network)
            met = [set(), set()]
            for _ in range(400):
                row = random_row(self.source, 4, 10 ** self.source.randint(1, 9))
                self.told(max(dot(point, row) for point in reading[0]), value_of(network, row))
                told = [max(dot(point, row) for point in lot) for lot in lots]
                self.told(told[0] - told[1], value_of(network, row))
                for lot, own, point in zip(lots, met, cornering(network, row)[-2:]):
                    self.assertIn(point, lot)
                    own.add(point)
            for lot in lots:
                self.told(lot, corners(lot))
                self.assertLessEqual(len(lot), 60)
