"""Stage 18: an input that is 1."""

from fractions import Fraction

from tests.helpers import (
    ODD_VALUES, SIXTY, Case, changed, dot, longest, lot_of, mix, moments, plus, random_lot, random_row, scale, value)
from tests.makings import made_alike, told_by
from tests.test_networks import random_network

from rampworks.errors import InvalidLot, InvalidNumber, InvalidOperation, InvalidReading, InvalidRow, TooMany
from rampworks.hull.corners import corners, is_lot
from rampworks.hull.sums import summed, turned
from rampworks.net.ones import (
    agree_or_place, is_agree_or_place, is_upper_or_under, upper, upper_or_under, value_at_place)
from rampworks.net.readings import do_agree, is_reading, reading_of

HOUSE, POINT = ((0, 0), (0, 2), (1, 3), (2, 0), (2, 2)), ((0, 0),)
SQUARE = ((0, 0), (0, 1), (1, 0), (1, 1))
NARROW = (((0,), (1,)), ((2,),))


def lowered(source, lot):
    """The lot with points put under those that it has."""
    under = [plus(point, (0,) * (len(point) - 1) + (-source.randint(1, 3),)) for point in lot]
    return lot_of(lot + tuple(source.sample(under, source.randint(1, len(under)))))


def all_sums(one, other):
    return lot_of(plus(x, y) for x in one for y in other)


def is_form_for(lot, index, form):
    point = lot[index]
    return form[-1] > 0 and all(dot(form, point) > dot(form, other) for other in lot if other != point)


def is_under(lot, index, number, weights):
    if number < 1 or min(weights) < 0 or sum(weights) != number or weights[index] != 0:
        return False
    total, point = mix(weights, lot), scale(lot[index], number)
    return total[:-1] == point[:-1] and point[-1] <= total[-1]


class Upper(Case):

    def test_either(self):
        for _ in range(60):
            length = self.source.choice((2, 2, 3, 4, 5, 8))
            lot = random_lot(self.source, self.source.randint(1, 9), length, self.source.choice((1, 2, 9)))
            if self.source.random() < 0.4:
                lot = lowered(self.source, lot)
            found = []
            for index, point in enumerate(lot):
                told = upper_or_under(lot, index)
                if told[0] == "upper":
                    found.append(point)
                    self.assertTrue(is_form_for(lot, index, told[1]))
                else:
                    self.assertTrue(is_under(lot, index, told[1], told[2]))
                self.told(True, is_upper_or_under(lot, index, told))
                self.assertLessEqual(longest(told), 50)
            self.told(tuple(found), upper(lot))
            self.assertGreater(len(found), 0)

    def test_what_counts(self):
        for _ in range(40):
            length = self.source.randint(2, 4)
            lot = lowered(self.source, random_lot(self.source, 6, length, 3))
            told = upper(lot)
            self.assertTrue(set(told) <= set(corners(lot)))
            for _ in range(10):
                row = random_row(self.source, length - 1, 9) + (self.source.randint(1, 9),)
                self.told(value(lot, row), value(told, row))

    def test_known(self):
        self.told(((0, 2), (1, 3), (2, 2)), upper(HOUSE))
        self.told(((0, 1), (1, 1)), upper(SQUARE))
        self.told(((5, -7),), upper(((5, -7),)))
        self.told(((0, 0, 3),), upper(((0, 0, 0), (0, 0, 1), (0, 0, 3))))
        self.told(moments(9, 2)[0:1] + moments(9, 2)[-1:], upper(moments(9, 2)))
        self.told(tuple((k, -k * k) for k in range(9)), upper(tuple((k, -k * k) for k in range(9))))
        self.told(upper(HOUSE), upper(upper(HOUSE)))

    def test_not_true(self):
        # The turned lot has as many upper corners only sometimes; an upper one need not be the highest.
        self.assertNotEqual(len(upper(HOUSE)), len(upper(turned(HOUSE))))
        self.assertIn((0, 2), upper(HOUSE))

    def test_judge(self):
        self.judges(lambda told: is_upper_or_under(HOUSE, 2, told), ("upper", (0, 1)))
        self.judges(lambda told: is_upper_or_under(HOUSE, 0, told), ("under", 1, (0, 1, 0, 0, 0)))
        self.refuses_all(lambda told: is_upper_or_under(HOUSE, 0, told), changed(("under", 1, (0, 1, 0, 0, 0))))
        for told in (("upper", (0, 10 ** 99)), ("upper", (1, 2)), ("upper", (-1, 2))):
            self.told(True, is_upper_or_under(HOUSE, 2, told))
        for told in (("under", 2, (0, 2, 0, 0, 0)), ("under", 10 ** 99, (0, 10 ** 99, 0, 0, 0))):
            self.told(True, is_upper_or_under(HOUSE, 0, told))
        # Greatest alone, but with a last member that is not above 0; or greatest with others.
        for index, form in ((0, (-1, -1)), (1, (-1, 0)), (3, (1, -1)), (2, (1, 1)), (2, (0, 0))):
            self.told(False, is_upper_or_under(HOUSE, index, ("upper", form)))
        for told in (("under", 1, (1, 0, 0, 0, 0)), ("under", 0, (0, 0, 0, 0, 0)), ("under", 1, (0, 0, 1, 0, 0)),
                     ("under", 2, (0, 1, 0, 0, 0)), ("under", 1, (0, 1, 0, 0)), ("under", -1, (0, -1, 0, 0, 0))):
            self.told(False, is_upper_or_under(HOUSE, 0, told))
        self.told(False, is_upper_or_under(HOUSE, 1, ("under", 2, (0, 1, 1, 0, 0))))
        self.told(True, is_upper_or_under(((0, 0), (1, 1), (2, 2)), 1, ("under", 2, (1, 0, 1))))
        self.told(True, is_upper_or_under(POINT, 0, ("upper", (7, 1))))
        self.told(False, is_upper_or_under(POINT, 0, ("upper", (7, 0))))
        self.told("upper", upper_or_under(POINT, 0)[0])

    def test_great_lots(self):
        lot = tuple((k, -k * k) for k in range(-200, 200))
        self.told(lot, upper(lot))
        self.told(True, is_upper_or_under(lot, 77, upper_or_under(lot, 77)))
        for length in (3, 4):
            self.told(moments(90, length), upper(moments(90, length)))
        lot = random_lot(self.source, 60, 4, 20)
        told = upper(lot)
        for index in range(0, 60, 7):
            self.told("upper" if lot[index] in told else "under", upper_or_under(lot, index)[0])
        long_lot = random_lot(self.source, 7, 3, SIXTY)
        for index in range(len(long_lot)):
            self.told(True, is_upper_or_under(long_lot, index, upper_or_under(long_lot, index)))


class Places(Case):

    def test_values(self):
        for _ in range(60):
            length = self.source.randint(2, 5)
            reading = tuple(random_lot(self.source, 4, length, 5) for _ in range(2))
            row, t = random_row(self.source, length - 1, 9), self.source.randint(1, 12)
            place = [Fraction(x, t) for x in row] + [1]
            most = [max(sum(x * y for x, y in zip(point, place)) for point in lot) for lot in reading]
            told = value_at_place(reading, row, t)
            exact = Fraction(most[0] - most[1])
            self.told((exact.numerator, exact.denominator), told)
        self.told((7, 2), value_at_place((HOUSE, POINT), (1,), 2))
        self.told((0, 1), value_at_place((POINT, POINT), (3,), 6))
        self.told((1, SIXTY), value_at_place((((0, 0), (1, 0)), POINT), (1,), SIXTY))
        self.told((-2, 1), value_at_place((POINT, ((1, 1),)), (4,), 4))

    def test_networks_with_constants(self):
        for _ in range(25):
            inputs = self.source.randint(2, 3)
            network = random_network(self.source, inputs, [2], 3, 0.2)
            reading = reading_of(network)
            row, t = random_row(self.source, inputs - 1, 9), self.source.randint(1, 9)
            told = Fraction(told_by(network, row + (t,)), t)
            self.told((told.numerator, told.denominator), value_at_place(reading, row, t))
            for other in made_alike(self.source, network):
                self.told(("agree",), agree_or_place(reading, reading_of(other)))

    def test_agree_or_place(self):
        found = {}
        for at in range(120):
            length = self.source.choice((2, 2, 3, 3, 4, 6))
            one = (random_lot(self.source, 4, length, 2), random_lot(self.source, 3, length, 2))
            part = random_lot(self.source, 3, length, 2)
            other = (lowered(self.source, one[0]), one[1]) if at % 4 else one
            if at % 2:
                other = (summed(other[0], part), summed(lowered(self.source, other[1]), part))
            if at % 3 == 0:
                other = (lot_of(other[0] + random_lot(self.source, 1, length, 3)), other[1])
            if at % 5 == 0:
                one, other = other, one
            told = agree_or_place(one, other)
            found[told[0]] = found.get(told[0], 0) + 1
            left, right = all_sums(one[0], other[1]), all_sums(other[0], one[1])
            self.told(upper(left) == upper(right), told == ("agree",))
            self.told(True, is_agree_or_place(one, other, told))
            self.told(told == ("agree",), is_agree_or_place(one, other, ("agree",)))
            if told[0] == "place":
                _, row, t = told
                self.assertGreater(t, 0)
                self.assertNotEqual(value_at_place(one, row, t), value_at_place(other, row, t))
                self.assertLessEqual(longest(told), 50)
            else:
                for _ in range(10):
                    row, t = random_row(self.source, length - 1, 9), self.source.randint(1, 9)
                    self.told(value_at_place(one, row, t), value_at_place(other, row, t))
                    self.told(False, is_agree_or_place(one, other, ("place", row, t)))
        self.assertGreater(min(found.values()), 20)

    def test_unlike_in_a_thin_cone_alone(self):
        for size in (3, 50, 10 ** 6):
            lot = ((0, 0), (1, size), (2, 2 * size - 1))
            more = ((0, 0), (1, size), (2, 2 * size))
            self.told(upper(lot), lot)
            told = agree_or_place((lot, POINT), (((0, 0), (2, 2 * size - 1)), POINT))
            self.told("place", told[0])
            self.told("place", agree_or_place((lot, POINT), (more, POINT))[0])
            self.told(("agree",), agree_or_place((more, POINT), (((0, 0), (2, 2 * size)), POINT)))

    def test_not_true(self):
        # Readings that agree at all places need not tell the same for all rows.
        other = (HOUSE[1:3] + HOUSE[4:], POINT)
        self.told(("agree",), agree_or_place((HOUSE, POINT), other))
        self.told(False, do_agree((HOUSE, POINT), other))
        # One place for all: a reading is 0 just if both lots have equal upper corners.
        self.told(("agree",), agree_or_place((HOUSE, HOUSE[1:3] + HOUSE[4:]), (POINT, POINT)))

    def test_judge(self):
        one, other = (HOUSE, POINT), (SQUARE, POINT)
        self.judges(lambda told: is_agree_or_place(one, other, told), ("place", (0,), 1))
        self.judges(lambda told: is_agree_or_place(one, one, told), ("agree",))
        for told in (("place", (5,), 1), ("place", (10 ** 99,), 10 ** 99), ("place", (-7,), 2)):
            self.told(True, is_agree_or_place(one, other, told))
        for told in (("place", (0,), 0), ("place", (0,), -1), ("place", (0, 1), 1), ("place", (), 1), ("agree",),
                     ("place", (True,), 1), ("place", 0, 1)):
            self.told(False, is_agree_or_place(one, other, told))
        self.told(False, is_agree_or_place(one, one, ("place", (0,), 1)))


class Errors(Case):

    def test_lots(self):
        for bad in ODD_VALUES + (((0,), (1,)), ((0,),), ((1, 0), (0, 0)), ((0, 0), (0, 0)), ((0,) * 9,)):
            if is_lot(bad) and len(bad[0]) > 1:
                continue
            self.fails(InvalidLot, upper, bad)
            self.fails(InvalidLot, upper_or_under, bad, None)
            self.fails(InvalidLot, is_upper_or_under, bad, None, None)
        for bad in (5, -1, True, None, "0", 10 ** 60, (0,)):
            self.fails(InvalidNumber, upper_or_under, HOUSE, bad, given=bad)
            self.fails(InvalidNumber, is_upper_or_under, HOUSE, bad, None, given=bad)

    def test_readings(self):
        good = (HOUSE, POINT)
        for bad in ODD_VALUES + (NARROW, (HOUSE, ((0, 0, 0),)), [HOUSE, POINT], (HOUSE,)):
            if is_reading(bad) and len(bad[0][0]) > 1:
                continue
            self.fails(InvalidReading, value_at_place, bad, None, None)
            for call in (agree_or_place, lambda one, other: is_agree_or_place(one, other, None)):
                self.fails(InvalidReading, call, bad, good)
                self.fails(InvalidReading, call, good, bad)
                self.fails(InvalidReading, call, bad, bad)

    def test_places(self):
        for bad in ODD_VALUES + ((1, 2), (), [1], (True,), (SIXTY + 1,)):
            if not (isinstance(bad, tuple) and len(bad) == 1 and type(bad[0]) is int and abs(bad[0]) <= SIXTY):
                self.fails(InvalidRow, value_at_place, (HOUSE, POINT), bad, None)
        for bad in (0, -1, True, False, None, "1", 10 ** 60, (1,)):
            self.fails(InvalidNumber, value_at_place, (HOUSE, POINT), (1,), bad, given=bad)

    def test_behind_all_others(self):
        space = (((0, 0, 0),), ((0, 0, 0),))
        for call in (agree_or_place, lambda one, other: is_agree_or_place(one, other, None)):
            self.fails(InvalidOperation, call, (HOUSE, POINT), space)
            for one, other in (((moments(50, 2), POINT), (POINT, moments(41, 2))),
                               ((POINT, moments(41, 2)), (moments(50, 2), POINT))):
                self.fails(TooMany, call, one, other, limit=2000)
        # Just so many pairs of corners; upper ones alone are fewer, but do not count.
        told = agree_or_place((moments(50, 2), POINT), (POINT, moments(40, 2)))
        self.told("place", told[0])
        self.told(("agree",), agree_or_place((moments(44, 3), moments(44, 3)), (moments(45, 3), moments(45, 3))))

    def test_judges_let_each_value(self):
        for told in ODD_VALUES:
            self.told(False, is_upper_or_under(HOUSE, 1, told))
            self.told(False, is_agree_or_place((HOUSE, POINT), (SQUARE, POINT), told))

    def test_equal_calls(self):
        for call in (lambda: upper(HOUSE), lambda: upper_or_under(HOUSE, 0),
                     lambda: agree_or_place((HOUSE, POINT), (SQUARE, POINT))):
            self.told(call(), call())
