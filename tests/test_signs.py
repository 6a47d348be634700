"""Stage 17: signs on cones."""

from tests.helpers import ODD_VALUES, SIXTY, Case, changed, dot, longest, mix, random_row, scale
from tests.makings import linked, made_alike, polygon_network, told_by
from tests.test_networks import BAD_NETWORKS, random_network, reckoned

from rampworks.errors import InvalidNetwork, InvalidNumber, InvalidOperation, InvalidRow, TooMany
from rampworks.net.networks import Network, added, form_network, multiplied
from rampworks.net.readings import reading_of
from rampworks.net.signs import (
    above_or_row, form_or_unit, is_above_or_row, is_form_or_unit, is_in_cone, is_mixed, is_sign_or_row, sign_or_row,
    unit_kind)

ABS, STEP = Network(1, (((1,), (-1,)),), (0, 1, 1)), Network(2, (((1, -1),),), (0, 1, 1))
POINTED = Network(2, (((1, 0), (0, 1)), ((0, 0, 1, -1),)), (0, 0, 1, 0, -1))
WIDE, FIVE = polygon_network(31), form_network((1,) * 5)
SHUT_UP = ((1, 0), (-1, 0), (0, 1), (0, -1))
BAD_CONES = tuple(bad for bad in ODD_VALUES if bad != ()) + (
    ((1, 2),) * 7, ((1,),), ((1, 2, 3),), [(1, 2)], ((1, 2), [1, 2]), ((1, True),), ((1, SIXTY + 1),), (1, 2))


def random_cone(source, length):
    kind = source.randrange(8)
    if kind == 0:
        return ()
    if kind == 1:
        # But 0 is left, or a line, or a ray.
        unit = tuple(int(k == 0) for k in range(length))
        return (unit, scale(unit, -1)) + tuple(random_row(source, length, 2) for _ in range(source.randint(0, 3)))
    walls = tuple(random_row(source, length, 2) for _ in range(source.randint(1, 5)))
    return walls + (walls[0],) if kind == 2 else walls + ((0,) * length,) if kind == 3 else walls


def small_network(source):
    inputs = source.randint(1, 4)
    widths = [source.randint(1, 3 if inputs < 3 else 2) for _ in range(source.randint(0, 4 if inputs == 1 else 2))]
    return random_network(source, inputs, widths, 3, 0.3)


def is_within(cone, row):
    return all(dot(wall, row) >= 0 for wall in cone)


def rows_within(source, cone, length, many=12):
    """Rows of the cone, as far as they are met."""
    found = [random_row(source, length, source.choice((1, 3, 50))) for _ in range(6 * many)]
    return [row for row in found if is_within(cone, row)][:many]


def sum_by(network, layer, unit, row):
    """The sum of a unit, by hand."""
    sums, _ = reckoned(network, row)
    return sums[sum(len(units) for units in network.layers[:layer]) + unit]


def is_right(above, below, cone, sums):
    """[17.2] by hand."""
    if len(sums) != len(below):
        return False
    for point, (number, weights, numbers) in zip(below, sums):
        if number < 1 or sum(weights) != number or min(weights) < 0 or min(numbers, default=0) < 0:
            return False
        total = mix(weights, above)
        for count, wall in zip(numbers, cone, strict=True):
            total = tuple(x - count * y for x, y in zip(total, wall))
        if total != scale(point, number):
            return False
    return True


class Signs(Case):

    def test_either_sums_or_a_row(self):
        found = {}
        for at in range(150):
            network = small_network(self.source)
            cone = random_cone(self.source, network.inputs)
            if at % 2 == 0:
                many = network.inputs
                network = Network(many, network.layers, tuple(
                    0 if k < many else abs(x) for k, x in enumerate(network.last)))
            try:
                told = sign_or_row(network, cone)
            except TooMany as error:
                self.told(60, error.limit)
                continue
            found[told[0]] = found.get(told[0], 0) + 1
            if told[0] == "sums":
                above, below = reading_of(network)
                self.assertTrue(is_right(above, below, cone, told[1]))
                for row in rows_within(self.source, cone, network.inputs):
                    self.assertGreaterEqual(told_by(network, row), 0)
                    self.told(False, is_sign_or_row(network, cone, ("below", row)))
            else:
                self.assertTrue(is_within(cone, told[1]))
                self.assertLess(told_by(network, told[1]), 0)
            self.told(True, is_sign_or_row(network, cone, told))
            self.assertLessEqual(longest(told), 50)
        self.assertGreater(min(found.values()), 30)

    def test_known(self):
        self.told("sums", sign_or_row(ABS, ())[0])
        self.told("sums", sign_or_row(form_network((0, 0)), ())[0])
        self.told("below", sign_or_row(form_network((0, -1)), ())[0])
        # At 0 alone, everything is 0.
        self.told("sums", sign_or_row(form_network((5, -7)), SHUT_UP)[0])
        self.told("sums", sign_or_row(form_network((2, 3)), ((1, 0), (0, 1)))[0])
        self.told("below", sign_or_row(form_network((2, -3)), ((1, 0), (0, 1)))[0])
        self.told(("sums", ((1, (1,), (2, 3)),)), sign_or_row(form_network((2, 3)), ((1, 0), (0, 1))))

    def test_judge(self):
        self.judges(lambda value: is_sign_or_row(STEP, (), value), ("below", (-1, -2)))
        cone, network = ((1, 0), (0, 1)), form_network((2, 3))
        self.judges(lambda value: is_sign_or_row(network, cone, value), ("sums", ((1, (1,), (2, 3)),)))
        self.refuses_all(lambda value: is_sign_or_row(network, cone, value), changed(("sums", ((1, (1,), (2, 3)),))))
        for sums in (((2, (2,), (4, 6)),), ((10 ** 99, (10 ** 99,), (2 * 10 ** 99, 3 * 10 ** 99)),)):
            self.told(True, is_sign_or_row(network, cone, ("sums", sums)))
        for sums in (((0, (0,), (0, 0)),), ((-1, (-1,), (-2, -3)),), ((1, (1,), (2,)),), ((1, (1, 0), (2, 3)),), (),
                     ((1, (1,), (2, 3)), (1, (1,), (2, 3)))):
            self.told(False, is_sign_or_row(network, cone, ("sums", sums)))
        for row in ((-1, 10 ** 99), (-3, 1)):
            self.told(False, is_sign_or_row(network, cone, ("below", row)))
        self.told(True, is_sign_or_row(network, (), ("below", (-3 * 10 ** 99, 1))))
        # Several ways to make one sum.
        above, below = reading_of(ABS)
        self.told((((0,), (2,)), ((1,),)), (above, below))
        for told in ((2, (1, 1), ()), (4, (2, 2), ())):
            self.told(True, is_sign_or_row(ABS, (), ("sums", (told,))))
        self.told(False, is_sign_or_row(ABS, (), ("sums", ((1, (1, 0), ()),))))
        self.told(True, is_sign_or_row(ABS, ((1,),), ("sums", ((1, (0, 1), (1,)),))))

    def test_in_cone(self):
        for _ in range(60):
            length = self.source.randint(1, 4)
            cone = tuple(random_row(self.source, length, 2) for _ in range(self.source.randint(1, 6)))
            row = random_row(self.source, length, 3)
            self.told(is_within(cone, row), is_in_cone(cone, row))
        self.told(True, is_in_cone(((0, 0),), (SIXTY, -SIXTY)))


class Kinds(Case):

    def each(self, many):
        for _ in range(many):
            network = small_network(self.source)
            yield network, random_cone(self.source, network.inputs)

    def test_kinds(self):
        found = {}
        for network, cone in self.each(100):
            for layer, units in enumerate(network.layers):
                for unit in range(len(units)):
                    try:
                        kind = unit_kind(network, layer, unit, cone)
                    except TooMany as error:
                        self.told(60, error.limit)
                        continue
                    found[kind] = found.get(kind, 0) + 1
                    before = Network(network.inputs, network.layers[:layer], units[unit])
                    signs = [sign_or_row(each, cone) for each in (before, multiplied(before, -1))]
                    expected = {("sums", "sums"): "zero", ("sums", "below"): "open", ("below", "sums"): "shut",
                                ("below", "below"): "mixed"}[signs[0][0], signs[1][0]]
                    self.told(expected, kind)
                    if kind == "mixed":
                        rows = (signs[1][1], signs[0][1])
                        self.told(True, is_mixed(network, layer, unit, cone, rows))
                        self.told(False, is_mixed(network, layer, unit, cone, rows[::-1]))
                    else:
                        for one in rows_within(self.source, cone, network.inputs, 4):
                            other = random_row(self.source, network.inputs, 9)
                            self.told(False, is_mixed(network, layer, unit, cone, (one, other)))
        self.told(4, len(found))
        self.assertGreater(min(found.values()), 3)

    def test_form_or_unit(self):
        found = {}
        for network, cone in self.each(120):
            try:
                told = form_or_unit(network, cone)
            except TooMany as error:
                self.told(60, error.limit)
                continue
            found[told[0]] = found.get(told[0], 0) + 1
            kinds = [unit_kind(network, layer, unit, cone) for layer, units in enumerate(network.layers)
                     for unit in range(len(units))]
            self.told("unit" if "mixed" in kinds else "form", told[0])
            self.told(True, is_form_or_unit(network, cone, told))
            if told[0] == "form":
                for row in rows_within(self.source, cone, network.inputs):
                    self.told(dot(told[1], row), told_by(network, row))
                self.refuses_all(lambda value: is_form_or_unit(network, cone, value), changed(told))
                self.told(self.form_by(network, kinds), told[1])
            else:
                _, layer, unit, one, other = told
                self.assertTrue(is_within(cone, one) and is_within(cone, other))
                self.assertGreater(sum_by(network, layer, unit, one), 0)
                self.assertLess(sum_by(network, layer, unit, other), 0)
                self.told(False, is_form_or_unit(network, cone, told[:3] + (other, one)))
                self.told(False, is_form_or_unit(network, cone, ("form", network.last[:network.inputs])))
        self.assertGreater(min(found.values()), 15)

    def form_by(self, network, kinds):
        """What comes of leaving out shut and zero units, and of taking open ones as they stand."""
        many = network.inputs
        forms = [tuple(int(k == at) for k in range(many)) for at in range(many)]
        for unit, kind in zip(network.units, kinds, strict=True):
            forms.append(linked(forms[:len(unit)], unit) if kind == "open" else (0,) * many)
        return linked(forms, network.last)

    def test_known(self):
        self.told(("form", (1, 0)), form_or_unit(STEP, ((1, -1),)))
        self.told(("form", (0, 1)), form_or_unit(STEP, ((-1, 1),)))
        # A zero unit is left out, too: at 0 alone only the inputs stand.
        self.told("zero", unit_kind(STEP, 0, 0, SHUT_UP))
        self.told(("form", (0, 1)), form_or_unit(STEP, SHUT_UP))
        self.told("zero", unit_kind(STEP, 0, 0, ((1, -1), (-1, 1))))
        self.told(("form", (3, 4)), form_or_unit(form_network((3, 4)), ()))
        # The first unit is open, the second one is mixed: any mixed unit will do.
        two = Network(2, (((1, 0), (0, 1), (1, -1)),), (0, 0, 1, 1, 1))
        self.told(("unit", 0, 1), form_or_unit(two, ((1, 0),))[:3])
        self.told(True, is_form_or_unit(two, ((1, 0),), ("unit", 0, 2, (1, 0), (1, 2))))
        self.told(False, is_form_or_unit(two, ((1, 0),), ("unit", 0, 0, (1, 0), (-1, 2))))
        # A unit of a later layer.
        self.told("mixed", unit_kind(POINTED, 1, 0, ((1, 0), (0, 1))))
        self.told("open", unit_kind(POINTED, 1, 0, ((1, -1), (0, 1))))
        self.told(("unit", 1, 0), form_or_unit(POINTED, ((1, 0), (0, 1)))[:3])

    def test_judges(self):
        self.judges(lambda value: is_mixed(STEP, 0, 0, (), value), ((1, 0), (0, 1)))
        self.judges(lambda value: is_form_or_unit(STEP, (), value), ("unit", 0, 0, (1, 0), (0, 1)))
        self.judges(lambda value: is_form_or_unit(STEP, ((1, -1),), value), ("form", (1, 0)))
        self.told(True, is_mixed(STEP, 0, 0, (), ((10 ** 99, 1), (-10 ** 99, 1))))
        for value in (((1, 1), (0, 1)), ((1, 0), (0, 0)), ((1, 0), (1, 0)), ((1, 0, 0), (0, 1, 0)), ((1,), (0,))):
            self.told(False, is_mixed(STEP, 0, 0, (), value))
        self.told(False, is_mixed(STEP, 0, 0, ((1, -1),), ((1, 0), (0, 1))))
        for layer, unit in ((1, 0), (0, 1), (-1, 0), (0, -1), (10 ** 99, 0), (None, 0), (0, (0,))):
            self.told(False, is_form_or_unit(STEP, (), ("unit", layer, unit, (1, 0), (0, 1))))


class Above(Case):

    def test_either(self):
        found = {}
        for at in range(150):
            network = small_network(self.source)
            cone = random_cone(self.source, network.inputs)
            others = made_alike(self.source, network) or [network]
            other = self.source.choice(others)
            if at % 3 > 0:
                # Less by a ramp, or more.
                row = random_row(self.source, network.inputs, 2)
                ramp = Network(network.inputs, ((row,),), (0,) * network.inputs + (1 if at % 3 == 1 else -1,))
                other = added(other, ramp) if other.depth < 4 else other
            try:
                told = above_or_row(network, other, cone)
            except TooMany as error:
                self.assertIn(error.limit, (60, 2000))
                continue
            found[told[0]] = found.get(told[0], 0) + 1
            self.told(True, is_above_or_row(network, other, cone, told))
            if told[0] == "above":
                for row in rows_within(self.source, cone, network.inputs):
                    self.assertGreaterEqual(told_by(network, row), told_by(other, row))
                    self.told(False, is_above_or_row(network, other, cone, ("row", row)))
            else:
                self.assertTrue(is_within(cone, told[1]))
                self.assertLess(told_by(network, told[1]), told_by(other, told[1]))
                self.told(False, is_above_or_row(network, other, cone, ("above",)))
            self.assertLessEqual(longest(told), 50)
        self.assertGreater(min(found.values()), 20)

    def test_as_the_difference(self):
        for _ in range(40):
            inputs = self.source.randint(1, 3)
            one, other = (random_network(self.source, inputs, [2], 2, 0.3) for _ in range(2))
            cone = random_cone(self.source, inputs)
            told = above_or_row(one, other, cone)[0] == "above"
            self.told(told, sign_or_row(added(one, multiplied(other, -1)), cone)[0] == "sums")

    def test_judge(self):
        first = form_network((1, 0))
        self.judges(lambda value: is_above_or_row(STEP, first, (), value), ("above",))
        self.judges(lambda value: is_above_or_row(first, STEP, (), value), ("row", (0, 1)))
        self.told(True, is_above_or_row(first, STEP, (), ("row", (-10 ** 99, 1))))
        self.told(False, is_above_or_row(first, STEP, ((1, -1),), ("row", (0, 1))))
        self.told(True, is_above_or_row(first, STEP, ((1, -1),), ("above",)))
        self.told(False, is_above_or_row(first, STEP, (), ("above",)))
        for row in ((1, 0), (1, 1), (0, 1, 0), (0,)):
            self.told(False, is_above_or_row(first, STEP, (), ("row", row)))


class Errors(Case):

    def test_networks(self):
        for bad in BAD_NETWORKS + ODD_VALUES:
            for call in (lambda: sign_or_row(bad, None), lambda: is_sign_or_row(bad, None, None),
                         lambda: unit_kind(bad, None, None, None), lambda: is_mixed(bad, None, None, None, None),
                         lambda: form_or_unit(bad, None), lambda: is_form_or_unit(bad, None, None),
                         lambda: above_or_row(bad, bad, None), lambda: above_or_row(STEP, bad, None),
                         lambda: is_above_or_row(bad, STEP, None, None), lambda: is_above_or_row(WIDE, bad, (), None)):
                self.fails(InvalidNetwork, call)

    def test_cones(self):
        for bad in BAD_CONES:
            for call in (lambda: sign_or_row(STEP, bad), lambda: is_sign_or_row(STEP, bad, None),
                         lambda: unit_kind(STEP, 0, 0, bad), lambda: is_mixed(STEP, 0, 0, bad, None),
                         lambda: form_or_unit(STEP, bad), lambda: is_form_or_unit(STEP, bad, None),
                         lambda: above_or_row(STEP, STEP, bad), lambda: is_above_or_row(STEP, STEP, bad, None),
                         lambda: above_or_row(STEP, ABS, bad), lambda: sign_or_row(WIDE, bad)):
                self.fails(InvalidOperation, call)
        for bad in (BAD_CONES[:0] + ODD_VALUES):
            if not (bad in (((2,), (1,)), ((1,), (1,)))):
                self.fails(InvalidOperation, is_in_cone, bad, None)
        for bad in ((), ((1,) * 5,), ((1, 2),) * 7, ((1, 2), (1,)), [(1, 2)]):
            self.fails(InvalidOperation, is_in_cone, bad, (1, 2))
        for row in ODD_VALUES + ((1,), (1, 2, 3), [1, 2], (1, True), (1, SIXTY + 1)):
            self.fails(InvalidRow, is_in_cone, ((1, 2),), row)

    def test_indices(self):
        for bad in (1, -1, True, None, "0", 10 ** 60, (0,)):
            for call in (lambda: unit_kind(STEP, bad, None, None), lambda: is_mixed(STEP, bad, None, None, None),
                         lambda: unit_kind(STEP, 0, bad, None), lambda: is_mixed(STEP, 0, bad, None, None)):
                self.fails(InvalidNumber, call, given=bad)
        self.fails(InvalidNumber, unit_kind, form_network((1,)), 0, 0, (), given=0)

    def test_behind_all_others(self):
        deep = Network(5, (((1,) * 5,),), (0,) * 5 + (1,))
        for network in (FIVE, deep):
            for call in (lambda: sign_or_row(network, ()), lambda: is_sign_or_row(network, (), None),
                         lambda: form_or_unit(network, ()), lambda: is_form_or_unit(network, (), None),
                         lambda: above_or_row(network, network, ()), lambda: above_or_row(STEP, network, ()),
                         lambda: is_above_or_row(network, network, (), None)):
                self.fails(InvalidOperation, call)
        self.fails(InvalidOperation, unit_kind, deep, 0, 0, ())
        self.fails(InvalidOperation, is_mixed, deep, 0, 0, (), None)
        for value in (None, ("below", (-1, 0)), ("sums", ())):
            self.fails(TooMany, is_sign_or_row, WIDE, (), value, limit=60)
        self.fails(TooMany, sign_or_row, WIDE, (), limit=60)
        for one, other in ((WIDE, STEP), (STEP, WIDE)):
            for value in (None, ("above",), ("row", (1, 0))):
                self.fails(TooMany, is_above_or_row, one, other, (), value, limit=60)
            self.fails(TooMany, above_or_row, one, other, (), limit=60)
        for sign in (1, -1):
            one, other = polygon_network(25, sign), polygon_network(21, -sign)
            self.fails(TooMany, above_or_row, one, other, (), limit=2000)
            self.fails(TooMany, is_above_or_row, one, other, (), None, limit=2000)
            other = polygon_network(20, -sign)
            self.told("above" if sign == 1 else "row", above_or_row(one, other, ())[0])

    def test_unit_by_unit(self):
        rows = tuple((1, k) for k in range(31))
        # The sum of the second unit of the second layer is too much, that of the first one is not.
        deep = Network(2, (rows, ((0, 0) + (1,) + (0,) * 30, (0, 0) + (1,) * 31)), (0,) * 35)
        self.told("zero", unit_kind(deep, 1, 0, SHUT_UP))
        for call in (lambda cone: unit_kind(deep, 1, 1, cone), lambda cone: is_mixed(deep, 1, 1, cone, None)):
            self.fails(TooMany, call, SHUT_UP, limit=60)
        # All units of the first layer are mixed without walls: so nothing too great is told.
        self.told(("unit", 0, 0), form_or_unit(deep, ())[:3])
        self.told(True, is_form_or_unit(deep, (), ("unit", 0, 1, (1, 0), (-1, 0))))
        self.told(True, is_form_or_unit(deep, (), ("unit", 0, 30, (1, 0), (-1, 0))))
        self.told(False, is_form_or_unit(deep, (), None))
        cone = ((1, 0), (0, 1))
        self.fails(TooMany, form_or_unit, deep, cone, limit=60)
        for value in (None, ("form", (0, 0)), ("unit", 0, 0, (1, 0), (-1, 0))):
            self.fails(TooMany, is_form_or_unit, deep, cone, value, limit=60)
        # No sum of a unit is too much, but what the last row tells is: it has no say.
        flat = Network(2, (rows,), (0, 0) + (1,) * 31)
        self.fails(TooMany, sign_or_row, flat, cone, limit=60)
        self.told(("form", (31, 465)), form_or_unit(flat, cone))
        self.told(True, is_form_or_unit(flat, cone, ("form", (31, 465))))
        # A unit's join has no say either, but for a unit behind it: a point just beyond an edge makes one corner more.
        last = ((-500, 1) + (1000,) * 30,)
        join = Network(2, (rows[:30], last), (0,) * 32 + (1,))
        self.fails(TooMany, sign_or_row, join, cone, limit=60)
        self.told("open", unit_kind(join, 1, 0, cone))
        told = form_or_unit(join, cone)
        self.told(("form", (-500 + 1000 * 30, 1 + 1000 * 435)), told)
        self.told(True, is_form_or_unit(join, cone, told))
        behind = Network(2, (rows[:30], last, ((0,) * 32 + (1,),)), (0,) * 33 + (1,))
        self.fails(TooMany, form_or_unit, behind, cone, limit=60)
        self.fails(TooMany, unit_kind, behind, 2, 0, cone, limit=60)
        self.told("open", unit_kind(behind, 1, 0, cone))

    def test_bounds(self):
        units = tuple(tuple(k ** at for at in range(4)) for k in range(1, 7))
        cone = tuple(tuple((3 * k + j * k + 1) % 5 - 1 for j in range(4)) for k in range(6))
        for sign in (1, -1):
            network = Network(4, (units,), (0,) * 4 + (sign,) * 6)
            self.told(53, sum(len(lot) for lot in reading_of(network)))
            for walls in ((), cone):
                told = sign_or_row(network, walls)
                self.told("sums" if sign == 1 else "below", told[0])
                self.told(True, is_sign_or_row(network, walls, told))
                self.told(("above",), above_or_row(network, network, walls))
                self.told(True, is_form_or_unit(network, walls, form_or_unit(network, walls)))
        long_one = Network(1, (((SIXTY,),),), (0, SIXTY))
        self.told(True, is_sign_or_row(long_one, ((SIXTY,),), sign_or_row(long_one, ((SIXTY,),))))

    def test_judges_let_each_value(self):
        for value in ODD_VALUES:
            self.told(False, is_sign_or_row(STEP, ((1, 0),), value))
            self.told(False, is_mixed(STEP, 0, 0, (), value))
            self.told(False, is_form_or_unit(STEP, (), value))
            self.told(False, is_above_or_row(STEP, STEP, (), value))

    def test_equal_calls(self):
        for _ in range(15):
            network = small_network(self.source)
            cone = random_cone(self.source, network.inputs)
            for call in (lambda: sign_or_row(network, cone), lambda: form_or_unit(network, cone),
                         lambda: above_or_row(network, network, cone)):
                try:
                    self.told(call(), call())
                except TooMany as error:
                    self.assertIn(error.limit, (60, 2000))
