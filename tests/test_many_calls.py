"""Networks and readings that are asked and judged over and over: the same answers and errors by shorter ways."""

from tests.helpers import ODD_VALUES, Case, random_lot, random_row, spoilt
from tests.makings import excess_of, made_alike, polygon_network, told_by, with_one_changed
from tests.test_networks import random_network

from rampworks.errors import TooMany
from rampworks.hull.sums import joined, moved, summed
from rampworks.net.alike import (
    alike_along, alike_or_point, greatest_or_rows, is_alike_along, is_alike_or_point, is_greatest_or_rows,
    is_straight_or_rows, straight_or_rows)
from rampworks.net.bounds import corners_bound
from rampworks.net.networks import Network, form_network
from rampworks.net.readings import reading_of
from rampworks.stick.layer import bends, is_layer_or_places, layer_or_places, least_units

LONG = Network(2, (
    ((-522272, 215501), (523432, 401521), (-150233, 868173)),
    ((-384545, -655666, 643371, -487435, -48083), (-38572, -458904, 690923, -589093, -298951),
     (-438651, 991808, -7576, 563199, 704131))),
    (415221, -303531, 547875, 969440, 961162, 523041, -344921, 357275))
FORM = form_network((1, 0))


def values_for(source, inputs):
    """Values of all kinds for a judge: right ones by form, and spoilt ones."""
    rows = [random_row(source, inputs, size) for size in (1, 9, 10 ** 9, 10 ** 70)]
    forms = [(word, row) for word in ("point", "numbers", "straight") for row in rows]
    pairs = [("rows", one, other) for one, other in zip(rows, rows[1:])]
    return [("alike",), ("greatest", (rows[0],)), *forms, *pairs, *spoilt(("point", rows[0])), *ODD_VALUES]


class Networks(Case):

    def check_pair(self, one, other, are_like):
        told = alike_or_point(one, other)
        self.told("alike" if are_like else "point", told[0])
        if not are_like:
            self.assertNotEqual(told_by(one, told[1]), told_by(other, told[1]))
        self.told(True, is_alike_or_point(one, other, told))
        self.told(are_like, is_alike_or_point(one, other, ("alike",)))
        for value in values_for(self.source, one.inputs):
            if isinstance(value, tuple) and len(value) == 2 and value[0] == "point" and value[1].__class__ is tuple \
                    and len(value[1]) == one.inputs and all(type(x) is int for x in value[1]):
                expected = told_by(one, value[1]) != told_by(other, value[1])
                self.told(expected, is_alike_or_point(one, other, value))
            elif value != ("alike",):
                self.told(False, is_alike_or_point(one, other, value))

    def test_long_weights(self):
        for other in made_alike(self.source, LONG):
            self.check_pair(LONG, other, True)
            self.check_pair(other, LONG, True)
            changed = with_one_changed(self.source, other)
            self.told(alike_or_point(LONG, changed)[0], alike_or_point(changed, LONG)[0])

    def test_small_ones(self):
        for _ in range(25):
            inputs = self.source.randint(1, 4)
            widths = [self.source.randint(1, 2) for _ in range(self.source.randint(0, 2))]
            network = random_network(self.source, inputs, widths, 4, 0.2)
            for other in made_alike(self.source, network):
                try:
                    self.check_pair(network, other, True)
                except TooMany as error:
                    self.assertIn(error.limit, (60, 2000))

    def test_many_units(self):
        for many in (29, 30):
            for sign in (1, -1):
                network = polygon_network(many, sign)
                self.check_pair(network, FORM, False)
                self.check_pair(network, network, True)
                self.told("numbers", alike_along(network, FORM, ((1, 0),))[0])
                # Where all units but the first one are shut the network is as it is without them.
                first = Network(2, (((1, 0),),), (0, 0, sign))
                self.told(("alike",), alike_along(polygon_network(1, sign), first, ((0, 1),)))
                told = straight_or_rows(network)
                self.assertNotEqual(0, excess_of(network, told[1], told[2]))
                for value in values_for(self.source, 2):
                    if not (isinstance(value, tuple) and value[:1] == ("rows",) and len(value) == 3):
                        self.told(False, is_straight_or_rows(network, value))
        told = greatest_or_rows(polygon_network(30))
        self.told(reading_of(polygon_network(30))[0], told[1])
        self.told(60, len(told[1]))
        self.fails(TooMany, greatest_or_rows, polygon_network(30, -1), limit=2000)
        less = polygon_network(12, -1)
        told = greatest_or_rows(less)
        self.assertGreater(excess_of(less, told[1], told[2]), 0)

    def test_alike_but_at_the_first_rows(self):
        # Equal along the first axis, unlike elsewhere; and straight along it, bent elsewhere.
        one, other = Network(2, (((0, 1),),), (1, 0, 1)), form_network((1, 0))
        self.check_pair(one, other, False)
        self.told(("alike",), alike_along(one, other, ((1, 0),)))
        self.told(True, is_alike_along(one, other, ((1, 0),), ("alike",)))
        self.told("numbers", alike_along(one, other, ((1, 0), (0, 1)))[0])
        self.told(False, is_alike_along(one, other, ((1, 0), (0, 1)), ("alike",)))
        self.told("rows", straight_or_rows(one)[0])
        self.told(False, is_straight_or_rows(one, ("straight", (1, 0))))
        self.told(True, is_straight_or_rows(other, ("straight", (1, 0))))
        self.told(False, is_straight_or_rows(other, ("straight", (1, 1))))


class Bounds(Case):

    def refuses(self, limit, one, other):
        for value in values_for(self.source, one.inputs):
            self.fails(TooMany, is_alike_or_point, one, other, value, limit=limit)
            self.fails(TooMany, is_alike_along, one, other, ((1,) * one.inputs,), value, limit=limit)

    def test_sixty_corners_whichever_value_is_judged(self):
        for sign in (1, -1):
            wide, most = polygon_network(31, sign), polygon_network(30, sign)
            self.refuses(60, wide, FORM)
            self.refuses(60, FORM, wide)
            self.refuses(60, most, wide)
            for value in values_for(self.source, 2):
                self.fails(TooMany, is_straight_or_rows, wide, value, limit=60)
                self.fails(TooMany, is_greatest_or_rows, wide, value, limit=60)
                self.assertIn(is_alike_or_point(most, FORM, value), (True, False))
                self.assertIn(is_straight_or_rows(most, value), (True, False))
                self.fails(TooMany, is_greatest_or_rows, polygon_network(30, -1), value, limit=2000)

    def lot_of_units(self, rows, begin):
        """The sum of a point and of sticks."""
        lot = (begin,)
        for row in rows:
            lot = summed(lot, ((0, 0), row))
        return lot

    def check_joined(self, rows, others, form):
        """A unit in a second layer whose row takes a form, the units of some rows, and takes off those of others."""
        unit = form + (1,) * len(rows) + (-1,) * len(others)
        network = Network(2, (rows + others, (unit,)), (0, 0) + (0,) * len(rows + others) + (1,))
        above = self.lot_of_units(rows, tuple(max(0, x) for x in form))
        below = self.lot_of_units(others, tuple(max(0, -x) for x in form))
        many = max(len(above), len(below), len(joined(above, below)))
        if many > 60:
            self.refuses(60, network, FORM)
        else:
            self.told((joined(above, below), below), reading_of(network))
            for value in values_for(self.source, 2):
                self.assertIn(is_alike_or_point(network, FORM, value), (True, False))
        return many

    def test_joins_on_the_way(self):
        plain, other = tuple((1, k) for k in range(30)), tuple((2, 2 * k + 1) for k in range(30))
        # A point is within, or it is a corner more; the polygon is only taken off.
        self.told(60, self.check_joined(plain, (), (0, 0)))
        self.told(60, self.check_joined((), plain, (0, 0)))
        self.told(60, self.check_joined((), plain, (1, 1)))
        self.told(61, self.check_joined(plain + ((1, 30),), (), (10, 1)) - 1)
        self.assertGreater(self.check_joined(plain[:16], other[:16], (-8, 40)), 20)
        found = [self.check_joined(plain[at:at + 20], other[at:at + 20], (-20, 20 * at)) for at in range(4)]
        self.assertGreater(max(found), 30)

    def test_pairs_whichever_value_is_judged(self):
        self.refuses(2000, polygon_network(25), polygon_network(21, -1))
        self.refuses(2000, polygon_network(25, -1), polygon_network(21))
        for sign in (1, -1):
            for value in values_for(self.source, 2):
                told = is_alike_or_point(polygon_network(25, sign), polygon_network(20, -sign), value)
                self.assertIn(told, (True, False))

    def test_three_and_four_inputs(self):
        for inputs, many in ((3, 8), (3, 9), (4, 6), (4, 7)):
            units = tuple(tuple(k ** at for at in range(inputs)) for k in range(1, many + 1))
            network = Network(inputs, (units,), (0,) * inputs + (1,) * many)
            cells = {(3, 8): 58, (3, 9): 74, (4, 6): 52, (4, 7): 84}[inputs, many]
            form = form_network((1,) + (0,) * (inputs - 1))
            if cells > 60:
                self.refuses(60, network, form)
                continue
            self.told(cells, len(reading_of(network)[0]))
            self.check_told(network, form)

    def check_told(self, network, form):
        for value in values_for(self.source, network.inputs):
            self.assertIn(is_alike_or_point(network, form, value), (True, False))
            self.assertIn(is_straight_or_rows(network, value), (True, False))

    def test_no_lot_has_more_corners_than_cells_tell(self):
        known = 0
        for _ in range(150):
            inputs = self.source.randint(2, 4)
            widths = [self.source.randint(1, 4) for _ in range(self.source.randint(0, 3 if inputs == 2 else 2))]
            network = random_network(self.source, inputs, widths, self.source.choice((1, 3, 99)), 0.2)
            bound = corners_bound(network, 60)
            if bound is not None:
                known += 1
                above, below = reading_of(network)
                self.assertLessEqual(len(above), bound[0])
                self.assertLessEqual(len(below), bound[1])
        self.assertGreater(known, 80)


class Layers(Case):

    def lifted(self, lot):
        return tuple(point + (0,) for point in lot)

    def test_plane_bends_as_in_space(self):
        for at in range(60):
            length, size = self.source.randint(1, 2), self.source.choice((1, 3, 50))
            lots = [random_lot(self.source, self.source.randint(1, 5), length, size) for _ in range(2)]
            if at % 2 == 0:
                other = random_lot(self.source, 4, length, size)
                lots = [summed(lot, other) for lot in lots]
            if at % 5 == 0:
                lots[1] = moved(lots[0], random_row(self.source, length, 5))
            reading = tuple(lots)
            space = tuple(self.lifted(lot) if length == 2 else self.lifted(self.lifted(lot)) for lot in lots)
            longer = tuple((row + (0,) * (3 - length), least, most) for row, least, most in bends(reading))
            self.told(longer, bends(space))
            told, beside = layer_or_places(reading), layer_or_places(space)
            self.told(told[0], beside[0])
            self.told(True, is_layer_or_places(reading, told))
            if told[0] == "layer":
                self.told(least_units(reading), least_units(space))
                self.told(len(told[1].units), len(beside[1].units))
