"""Stage 7: alike networks."""

from tests.helpers import ODD_VALUES, SIXTY, Case, changed, dot, longest, random_lot, random_row, same
from tests.makings import (
    excess_of, is_greatest_by, linked, made_alike, polygon_network, told_by, with_layer, with_one_changed,
    with_unit_apart, without_unit)
from tests.test_networks import BAD_NETWORKS, LAMP, random_network, zeros

from rampworks.errors import InvalidNetwork, InvalidOperation, TooMany
from rampworks.hull.corners import corners
from rampworks.hull.sums import summed
from rampworks.net.alike import (
    alike_along, alike_or_point, greatest_or_rows, is_alike_along, is_alike_or_point, is_greatest_or_rows,
    is_straight_or_rows, needless, straight_or_rows)
from rampworks.net.networks import Network, added, form_network, greater, multiplied, trimmed
from rampworks.net.readings import network_of, reading_of

ABS, TWICE = Network(1, (((1,), (-1,)),), (0, 1, 1)), Network(1, (((2,),),), (-1, 1))
STEP = Network(2, (((1, -1),),), (0, 1, 1))
WIDE = polygon_network(31)


def small_network(source, size=3):
    inputs = source.randint(1, 4)
    widths = [source.randint(1, 3 if inputs < 3 else 2) for _ in range(source.randint(0, 3))]
    return random_network(source, inputs, widths, size, 0.3)


def greatest_of(lot):
    """A network that is the greatest of the forms of a lot."""
    network = form_network(lot[0])
    for row in lot[1:]:
        network = greater(network, form_network(row))
    return network


class Alike(Case):

    def test_alike_by_making(self):
        for _ in range(40):
            network = small_network(self.source)
            for other in made_alike(self.source, network):
                for one, two in ((network, other), (other, network)):
                    try:
                        self.told(("alike",), alike_or_point(one, two))
                    except TooMany as error:
                        self.assertIn(error.limit, (60, 2000))

    def test_known(self):
        self.told(("alike",), alike_or_point(ABS, TWICE))
        self.told(("alike",), alike_or_point(LAMP, LAMP))
        self.told(("alike",), alike_or_point(zeros(3, (2, 2)), form_network((0, 0, 0))))
        self.told("point", alike_or_point(zeros(3, (2, 2)), form_network((0, 0, 1)))[0])
        # The sums differ by a move alone, and so do the values.
        self.told("point", alike_or_point(added(LAMP, form_network((0, 1))), LAMP)[0])
        # Units of a layer that is skipped.
        deep = Network(2, (((1, -2), (-2, 1)), ((-1, -1, 1, 1), (1, -3, 0, 0))), (0, 0, 0, 0, 0, 1))
        flat = Network(2, (((1, -3),),), (0, 0, 1))
        self.told(("alike",), alike_or_point(deep, flat))

    def test_any_pair_by_sums(self):
        points = 0
        for at in range(150):
            network = small_network(self.source)
            other = with_one_changed(self.source, network)
            if at % 3 == 0 and network.depth > 0:
                other = with_unit_apart(self.source, other)
            told = alike_or_point(network, other)
            if told[0] == "point":
                points += 1
                self.assertNotEqual(told_by(network, told[1]), told_by(other, told[1]))
            else:
                self.told(("alike",), told)
                for _ in range(40):
                    row = random_row(self.source, network.inputs, self.source.choice((1, 5, 10 ** 9)))
                    self.told(told_by(network, row), told_by(other, row))
            self.told(True, is_alike_or_point(network, other, told))
            self.assertLessEqual(longest(told), 50)
        self.assertGreater(points, 60)

    def test_unlike_in_a_thin_cone_alone(self):
        # The lesser one of two ramps is 0 but between two planes near one another.
        for size in (3, 90, 10 ** 6, 10 ** 29):
            units = ((1, -size), (-size, size * size + 1))
            thin = Network(2, (units, ((0, 0, 1, -1),)), (0, 0, 1, 0, -1))
            told = alike_or_point(thin, form_network((0, 0)))
            self.told("point", told[0])
            self.assertNotEqual(0, told_by(thin, told[1]))
            wide = Network(4, tuple(tuple(unit[:2] + (0, 0) + unit[2:] for unit in layer) for layer in thin.layers),
                           (0, 0, 7, 0) + thin.last[2:])
            told = alike_or_point(form_network((0, 0, 7, 0)), wide)
            self.assertNotEqual(7 * told[1][2], told_by(wide, told[1]))

    def test_whatever_readings_are_taken(self):
        for _ in range(10):
            length = self.source.randint(1, 3)
            one, other, third = (random_lot(self.source, 3, length, 3) for _ in range(3))
            try:
                network, beside = network_of((one, other)), network_of((summed(one, third), summed(other, third)))
            except TooMany as error:
                self.told(60, error.limit)
                continue
            self.told(("alike",), alike_or_point(network, beside))
            self.told(("alike",), alike_or_point(beside, network))
            self.told(True, is_alike_or_point(network, beside, ("alike",)))

    def test_judge(self):
        unlike = Network(1, (((1,),),), (0, 1))
        self.judges(lambda value: is_alike_or_point(ABS, TWICE, value), ("alike",))
        self.judges(lambda value: is_alike_or_point(ABS, unlike, value), ("point", (-3,)))
        for row in ((-1,), (-7,), (-10 ** 99,)):
            self.told(True, is_alike_or_point(ABS, unlike, ("point", row)))
        for value in (("alike",), ("point", (0,)), ("point", (4,)), ("point", (-1, 0)), ("point", -1), ("point", ())):
            self.told(False, is_alike_or_point(ABS, unlike, value))
        self.told(False, is_alike_or_point(ABS, TWICE, ("point", (-3,))))
        self.told(False, is_alike_or_point(ABS, unlike, ("point", (True,))))

    def test_judge_by_sums(self):
        for _ in range(40):
            network = small_network(self.source)
            other = with_one_changed(self.source, network)
            for size in (1, 3, 50):
                row = random_row(self.source, network.inputs, size)
                self.told(told_by(network, row) != told_by(other, row),
                          is_alike_or_point(network, other, ("point", row)))

    def test_long_weights(self):
        one = random_network(self.source, 3, (1, 1), SIXTY)
        self.told(("alike",), alike_or_point(one, with_layer(one)))
        other = Network(3, one.layers, one.last[:-1] + (one.last[-1] - 1,))
        told = alike_or_point(one, other)
        if told[0] == "point":
            self.assertNotEqual(told_by(one, told[1]), told_by(other, told[1]))


class Along(Case):

    def test_known(self):
        self.told(("alike",), alike_along(STEP, form_network((1, 0)), ((1, 1),)))
        self.told("numbers", alike_along(STEP, form_network((1, 0)), ((1, 1), (0, 1)))[0])
        self.told(("alike",), alike_along(STEP, form_network((5, 7)), ((0, 0),)))

    def test_not_along_both(self):
        one = Network(2, (((1, 0), (0, 1), (1, 1)),), (0, 0, 1, 1, -1))
        other = form_network((0, 0))
        self.told(("alike",), alike_along(one, other, ((1, 0),)))
        self.told(("alike",), alike_along(one, other, ((0, 1),)))
        self.told("numbers", alike_along(one, other, ((1, 0), (0, 1)))[0])

    def test_by_sums(self):
        kinds = {"alike": 0, "numbers": 0}
        for at in range(150):
            network = small_network(self.source)
            other = with_one_changed(self.source, network)
            many = self.source.randint(1, 4)
            rows = tuple(random_row(self.source, network.inputs, self.source.choice((1, 4))) for _ in range(many))
            if at % 2:
                rows = (rows[0],) * many
            told = alike_along(network, other, rows)
            kinds[told[0]] += 1
            if told[0] == "numbers":
                self.told(many, len(told[1]))
                row = linked(rows, told[1])
                self.assertNotEqual(told_by(network, row), told_by(other, row))
            else:
                for _ in range(30):
                    row = linked(rows, random_row(self.source, many, 20))
                    self.told(told_by(network, row), told_by(other, row))
            self.told(True, is_alike_along(network, other, rows, told))
            self.assertLessEqual(longest(told), 50)
        self.assertGreater(min(kinds.values()), 25)

    def test_axes_tell_all(self):
        for _ in range(30):
            network = small_network(self.source)
            other = with_one_changed(self.source, network)
            axes = tuple(tuple(int(k == at) for k in range(network.inputs)) for at in range(network.inputs))
            self.told(alike_or_point(network, other)[0] == "alike", alike_along(network, other, axes) == ("alike",))

    def test_judge(self):
        other = form_network((1, 0))
        self.judges(lambda value: is_alike_along(STEP, other, ((1, 1),), value), ("alike",))
        self.judges(lambda value: is_alike_along(STEP, other, ((1, 2), (1, 1)), value), ("numbers", (1, 0)))
        for numbers in ((1, 5), (2, -1), (10 ** 99, 0)):
            self.told(True, is_alike_along(STEP, other, ((1, 2), (1, 1)), ("numbers", numbers)))
        for value in (("alike",), ("numbers", (0, 1)), ("numbers", (-1, 0)), ("numbers", (1,)), ("numbers", (1, 0, 0))):
            self.told(False, is_alike_along(STEP, other, ((1, 2), (1, 1)), value))

    def test_long_rows(self):
        rows = ((SIXTY, -SIXTY), (1, SIXTY))
        told = alike_along(STEP, form_network((1, 0)), rows)
        row = linked(rows, told[1])
        self.assertNotEqual(told_by(STEP, row), row[0])


class Greatest(Case):

    def test_greatest_by_making(self):
        for _ in range(40):
            length = self.source.randint(1, 4)
            lot = random_lot(self.source, self.source.randint(1, 4), length, 3)
            network = greatest_of(lot)
            told = greatest_or_rows(network)
            self.told(("greatest", corners(lot)), told)
            self.told(True, is_greatest_or_rows(network, told))
            for other in made_alike(self.source, network):
                try:
                    self.told(told, greatest_or_rows(other))
                except TooMany as error:
                    self.assertIn(error.limit, (60, 2000))

    def test_by_sums(self):
        kinds = {"greatest": 0, "rows": 0}
        for _ in range(200):
            network = small_network(self.source)
            told = greatest_or_rows(network)
            kinds[told[0]] += 1
            if told[0] == "rows":
                self.assertGreater(excess_of(network, told[1], told[2]), 0)
            else:
                self.told(corners(told[1]), told[1])
                for _ in range(30):
                    row = random_row(self.source, network.inputs, 9)
                    self.told(True, is_greatest_by(told[1], network, row))
                    self.assertLessEqual(excess_of(network, row, random_row(self.source, network.inputs, 9)), 0)
            self.told(True, is_greatest_or_rows(network, told))
            self.assertLessEqual(longest(told), 50)
        self.assertGreater(min(kinds.values()), 40)

    def test_bent_up_in_a_thin_cone_alone(self):
        for size in (3, 50, 10 ** 6, 10 ** 25):
            units = ((1, -size), (-size, size * size + 1))
            thin = Network(2, (units, ((0, 0, 1, -1),)), (0, 0, 1, 0, -1))
            told = greatest_or_rows(thin)
            self.told("rows", told[0])
            self.assertGreater(excess_of(thin, told[1], told[2]), 0)
            # The same put to a greatest that bends elsewhere.
            high = added(thin, greatest_of(((0, 0), (3, 1), (1, 5))))
            told = greatest_or_rows(high)
            self.told("rows", told[0])
            self.assertGreater(excess_of(high, told[1], told[2]), 0)

    def test_judge(self):
        self.judges(lambda value: is_greatest_or_rows(STEP, value), ("greatest", ((0, 1), (1, 0))))
        for value in changed(("greatest", ((0, 1), (1, 0)))) + [
                ("greatest", ((0, 1),)), ("greatest", ((0, 1), (1, 0), (2, 0))), ("greatest", ((0, 1), (1, 1))),
                ("greatest", ((1, 0), (0, 1))), ("rows", (1, 0), (-1, 0)), ("rows", (0, 0), (0, 0))]:
            self.told(False, is_greatest_or_rows(STEP, value))
        down = Network(2, (((1, -1),),), (0, 1, -1))
        self.judges(lambda value: is_greatest_or_rows(down, value), ("rows", (2, 0), (-3, 0)))
        for x, y in (((1, 0), (-1, 0)), ((0, 5), (7, 0)), ((10 ** 99, 0), (0, 10 ** 70))):
            self.told(True, is_greatest_or_rows(down, ("rows", x, y)))
        for value in (("rows", (1, 0), (2, 0)), ("rows", (1, 0), (0, 0)), ("rows", (1,), (-1,)), ("rows", (1, 0)),
                      ("greatest", ((0, 1), (1, 0))), ("greatest", ((0, 1),)), ("rows", (1, 0, 0), (-1, 0, 0))):
            self.told(False, is_greatest_or_rows(down, value))

    def test_points_that_are_no_corners_are_refused(self):
        network = greatest_of(((0,), (4,)))
        self.told(True, is_greatest_or_rows(network, ("greatest", ((0,), (4,)))))
        self.told(False, is_greatest_or_rows(network, ("greatest", ((0,), (2,), (4,)))))

    def test_of_one_form_below_all_are_greatest(self):
        network = polygon_network(30)
        told = greatest_or_rows(network)
        self.told(("greatest", reading_of(network)[0]), told)
        self.told(60, len(told[1]))


class Straight(Case):

    def test_known(self):
        self.told(("straight", (1,)), straight_or_rows(Network(1, (((1,), (-1,)),), (0, 1, -1))))
        self.told(("straight", (3, -4)), straight_or_rows(form_network((3, -4))))
        self.told(("straight", (0, 0, 0)), straight_or_rows(zeros(3, (4, 4))))
        self.told("rows", straight_or_rows(ABS)[0])

    def test_by_sums(self):
        kinds = {"straight": 0, "rows": 0}
        for at in range(150):
            network = small_network(self.source)
            if at % 3 == 0:
                form = random_row(self.source, network.inputs, 5)
                network = with_layer(form_network(form))
            told = straight_or_rows(network)
            kinds[told[0]] += 1
            if told[0] == "rows":
                self.assertNotEqual(excess_of(network, told[1], told[2]), 0)
            else:
                for _ in range(30):
                    row = random_row(self.source, network.inputs, 9)
                    self.told(dot(told[1], row), told_by(network, row))
            self.told(True, is_straight_or_rows(network, told))
            self.assertLessEqual(longest(told), 50)
            # Straight are those that are greatest ones with their opposite.
            try:
                both = [greatest_or_rows(multiplied(network, number))[0] for number in (1, -1)]
            except TooMany as error:
                self.told(2000, error.limit)
                continue
            self.told(told[0] == "straight", both == ["greatest", "greatest"])
        self.assertGreater(min(kinds.values()), 40)

    def test_bent_in_a_thin_cone_alone(self):
        for size in (3, 50, 10 ** 6):
            units = ((1, -size), (-size, size * size + 1))
            thin = Network(2, (units, ((0, 0, 1, -1),)), (0, 0, 1, 0, -1))
            told = straight_or_rows(thin)
            self.told("rows", told[0])
            self.assertNotEqual(excess_of(thin, told[1], told[2]), 0)

    def test_judge(self):
        network = Network(2, (((1, 1), (-1, -1)),), (0, 2, 1, -1))
        self.judges(lambda value: is_straight_or_rows(network, value), ("straight", (1, 3)))
        self.refuses_all(lambda value: is_straight_or_rows(network, value), changed(("straight", (1, 3))))
        self.told(False, is_straight_or_rows(network, ("rows", (1, 0), (-1, 0))))
        self.judges(lambda value: is_straight_or_rows(STEP, value), ("rows", (2, 0), (-3, 0)))
        for value in (("straight", (1, 0)), ("straight", (0, 1)), ("rows", (1, 0), (2, 0)), ("rows", (1,), (-1,))):
            self.told(False, is_straight_or_rows(STEP, value))
        down = Network(2, (((1, -1),),), (0, 1, -1))
        self.told(True, is_straight_or_rows(down, ("rows", (1, 0), (-1, 0))))
        self.told(True, is_straight_or_rows(STEP, ("rows", (10 ** 80, 0), (0, 10 ** 99))))


class Needless(Case):

    def test_known(self):
        self.told(((0, 1),), needless(Network(1, (((1,), (-1,), (1,)),), (0, 1, 0, 2))))
        self.told((), needless(form_network((1, 2))))
        # Each of both is needless alone: the unit behind is 0 as long as one of them is left.
        network = Network(1, (((1,), (1,)), ((1, -1, -1),)), (0, 0, 0, 1))
        self.told(((0, 0), (0, 1), (1, 0)), needless(network))
        # A needless unit that is not 0 at all rows.
        self.told(((0, 0), (0, 1)), needless(Network(1, (((1,), (2,)),), (1, 0, 0))))
        self.told(((0, 0), (1, 0)), needless(Network(1, (((1,),), ((0, 5),)), (1, 0, 0))))

    def test_by_sums(self):
        full = 0
        for _ in range(60):
            network = small_network(self.source)
            found = needless(network)
            for layer, units in enumerate(network.layers):
                for unit in range(len(units)):
                    other = without_unit(network, layer, unit)
                    told = alike_or_point(network, other)
                    self.told((layer, unit) in found, told == ("alike",))
                    if (layer, unit) in found:
                        full += 1
                        for _ in range(20):
                            row = random_row(self.source, network.inputs, 9)
                            self.told(told_by(network, row), told_by(other, row))
                    else:
                        self.assertNotEqual(told_by(network, told[1]), told_by(other, told[1]))
            self.told(tuple(sorted(set(found))), found)
        self.assertGreater(full, 30)

    def test_most_units(self):
        # Of 128 units of one input; what each of them adds is told by two rows.
        for widths in ((64, 64), (32, 32, 32, 32)):
            network = random_network(self.source, 1, widths, 2, 0.9)
            found = needless(network)
            for layer, units in enumerate(network.layers):
                for unit in range(len(units)):
                    other = without_unit(network, layer, unit)
                    alike = all(told_by(network, row) == told_by(other, row) for row in ((1,), (-1,)))
                    self.told(alike, (layer, unit) in found)
            self.assertTrue(0 < len(found) < 128)

    def test_units_that_do_not_matter(self):
        for _ in range(20):
            network = small_network(self.source)
            found, kept = needless(network), len(trimmed(network).units)
            self.assertGreaterEqual(len(found), len(network.units) - kept)


class Errors(Case):

    def test_networks(self):
        calls = (
            lambda one, other: alike_or_point(one, other),
            lambda one, other: is_alike_or_point(one, other, None),
            lambda one, other: alike_along(one, other, ((0, 0),)),
            lambda one, other: is_alike_along(one, other, ((0, 0),), None))
        for bad in BAD_NETWORKS + ODD_VALUES:
            for call in calls:
                self.fails(InvalidNetwork, call, bad, STEP)
                self.fails(InvalidNetwork, call, STEP, bad)
                self.fails(InvalidNetwork, call, bad, bad)
                self.fails(InvalidNetwork, call, WIDE, bad)
            for call in (greatest_or_rows, straight_or_rows, needless):
                self.fails(InvalidNetwork, call, bad)
            for call in (is_greatest_or_rows, is_straight_or_rows):
                self.fails(InvalidNetwork, call, bad, None)
        for call in calls:
            self.fails(InvalidOperation, call, STEP, ABS)
            self.fails(InvalidOperation, call, WIDE, ABS)
            self.fails(TooMany, call, WIDE, STEP, limit=60)
            self.fails(TooMany, call, STEP, WIDE, limit=60)
            # More than 2000 pairs: P + S, then R + Q.
            self.fails(TooMany, call, polygon_network(25), polygon_network(21, -1), limit=2000)
            self.fails(TooMany, call, polygon_network(25, -1), polygon_network(21), limit=2000)

    def test_just_so_many_pairs(self):
        for sign in (1, -1):
            one, other = polygon_network(25, sign), polygon_network(20, -sign)
            told = alike_or_point(one, other)
            self.assertNotEqual(told_by(one, told[1]), told_by(other, told[1]))
            self.told("numbers", alike_along(one, other, ((1, 0), (0, 1)))[0])
            self.told(("alike",), alike_or_point(one, one))

    def test_rows(self):
        bad = ODD_VALUES + (
            ((1, 2, 3),), ((1,),), ((1, 2),) * 5, [(1, 2)], ((1, 2), [1, 2]), ((1, True),), ((1, SIXTY + 1),), (1, 2),
            ((1, 2), (1,)), ((1, 2), None))
        for rows in bad:
            for call in (lambda: alike_along(STEP, LAMP, rows), lambda: is_alike_along(STEP, LAMP, rows, None),
                         lambda: alike_along(STEP, ABS, rows), lambda: alike_along(WIDE, STEP, rows)):
                if not (isinstance(rows, tuple) and rows in (((1, 2),), ((2,), (1,)))):
                    self.fails(InvalidOperation, call)
        # As long as the inputs of the first network.
        self.fails(InvalidOperation, alike_along, ABS, STEP, ((1,),))
        self.fails(InvalidNetwork, alike_along, STEP, None, None)
        self.fails(InvalidOperation, alike_along, WIDE, STEP, ((1,),))
        self.fails(TooMany, alike_along, WIDE, STEP, ((1, 0),), limit=60)

    def test_of_greatest(self):
        def both(many, less, weight=1):
            """A reading with 2 * many corners above and 2 * less below, their edges by turns."""
            rows = tuple((1, k) for k in range(many)) + tuple((2, 2 * k + 1) for k in range(less))
            return Network(2, (rows,), (0, 0) + (weight,) * many + (-1,) * less)
        for call in (greatest_or_rows, lambda network: is_greatest_or_rows(network, None)):
            self.fails(TooMany, call, WIDE, limit=60)
            self.fails(TooMany, call, both(25, 21), limit=2000)
            # P and Q have 1600 pairs, but Q and the lot of the forms have more than 2000.
            self.told((40, 40), tuple(len(lot) for lot in reading_of(both(20, 20, 1000))))
            self.fails(TooMany, call, both(20, 20, 1000), limit=2000)
        told = greatest_or_rows(both(20, 10))
        self.assertGreater(excess_of(both(20, 10), told[1], told[2]), 0)
        for call in (straight_or_rows, lambda network: is_straight_or_rows(network, None)):
            self.fails(TooMany, call, WIDE, limit=60)
        # No sum is told here.
        told = straight_or_rows(both(25, 21))
        self.assertNotEqual(excess_of(both(25, 21), told[1], told[2]), 0)

    def test_of_the_network_without_a_unit(self):
        # A polygon lies in a great square, so that the join is the square: without its side the polygon comes out.
        square, polygon = ((1, 0), (0, 1)), tuple((1, k) for k in range(20))
        others = tuple((2, 2 * k + 1) for k in range(20))
        unit = (0, 0) + (-1000, -1000) + (1,) * 20 + (0,) * 20
        network = Network(2, (square + polygon + others, (unit,)), (0, 0) + (0,) * 22 + (1,) * 20 + (1,))
        self.assertLess(len(reading_of(network)[0]), 50)
        self.fails(TooMany, reading_of, without_unit(network, 0, 0), limit=60)
        self.fails(TooMany, needless, network, limit=60)

    def test_of_needless(self):
        self.fails(TooMany, needless, WIDE, limit=60)
        rows = tuple((1, k) for k in range(30))
        self.told((), needless(Network(2, (rows,), (0, 0) + (1,) * 30)))
        both = Network(2, (rows,), (0, 0) + (1,) * 15 + (-1,) * 15)
        self.told((), needless(both))
        wide = Network(2, (tuple((1, k) for k in range(46)),), (0, 0) + (1,) * 23 + (-1,) * 23)
        self.fails(TooMany, needless, wide, limit=2000)

    def test_judges_let_each_value(self):
        for value in ODD_VALUES:
            self.told(False, is_alike_or_point(ABS, TWICE, value))
            self.told(False, is_alike_along(STEP, LAMP, ((1, 0),), value))
            self.told(False, is_greatest_or_rows(STEP, value))
            self.told(False, is_straight_or_rows(STEP, value))


class Same(Case):

    def test_equal_calls_and_no_change(self):
        for _ in range(20):
            network = small_network(self.source)
            other = with_one_changed(self.source, network)
            kept = [(each.inputs, each.layers, each.last, each.depth, each.units) for each in (network, other)]
            for call in (lambda: alike_or_point(network, other), lambda: greatest_or_rows(network),
                         lambda: straight_or_rows(network), lambda: needless(network),
                         lambda: alike_along(network, other, ((1,) * network.inputs,))):
                self.assertTrue(same(call(), call()))
            self.assertEqual(kept, [(each.inputs, each.layers, each.last, each.depth, each.units)
                                    for each in (network, other)])
            self.assertEqual(set(vars(network)), {"inputs", "layers", "last", "depth", "units"})
