"""Stage 12: least readings in the plane."""

from math import gcd

from tests.helpers import ODD_VALUES, SIXTY, Case, dot, minus, plus, random_lot, random_row, same
from tests.planes import lies_within, plane_reading, same_functions, steps_of, way_of
from tests.test_corners import BAD_LOTS
from tests.test_fans import ring
from tests.test_readings import BAD_READINGS, tells

from rampworks.errors import InvalidLot, InvalidOperation, InvalidReading, TooMany
from rampworks.hull.corners import corners
from rampworks.hull.sums import moved, scaled, summed
from rampworks.plane import least as told
from rampworks.plane.least import (
    border, is_least, is_least_within, least_reading, least_within, lot_of as lot_with, rest, row_between, taken_off)

TRIANGLE, SQUARE = ((0, 0), (0, 1), (1, 0)), ((0, 0), (0, 1), (1, 0), (1, 1))
STICK, POINT = ((0, 0), (1, 1)), ((0, 0),)
SLANT, ALSO = (((0, 0), (1, 0), (1, 1)), ((0, 0), (1, 1), (2, 1))), (SQUARE, ((0, 0), (0, 1), (2, 1)))
NARROW, WIDE = (((0,),), ((1,),)), (((0, 0, 0),), ((1, 1, 1),))
BAD_BORDERS = ODD_VALUES + (
    {(1, 0): 1}, {(1, 0): 1, (-1, 0): 2}, {(2, 0): 1, (-2, 0): 1}, {(0, 0): 1}, {(1, 0): 0, (-1, 0): 0},
    {(1, 0): True, (-1, 0): 1}, {(1, 0): "1", (-1, 0): 1}, {(1, 0): -1, (-1, 0): -1}, {(True, 0): 1, (-1, 0): 1},
    {(1, 0, 0): 1, (-1, 0, 0): 1}, {(1,): 1, (-1,): 1}, {1: 1, -1: 1}, {"a": 1}, {None: 1}, [((1, 0), 1), ((-1, 0), 1)],
    {(1, 0): SIXTY + 1, (-1, 0): SIXTY + 1}, {(SIXTY + 1, 1): 1, (-SIXTY - 1, -1): 1}, {((1, 0),): 1}, {b"a": 1},
    (((1, 0), 1), ((-1, 0), 1)), {(1, 0): 1, (0, 1): 1, (-1, -1): 1, (1, 1): 1})


def least_by_words(reading):
    """P* and Q* with steps by the words of [12.3], each with the least point (0, 0)."""
    steps, others = steps_of(reading[0]), steps_of(reading[1])
    left = {row: steps.get(row, 0) - others.get(row, 0) for row in {**steps, **others}}
    sides = []
    for sign in (1, -1):
        sides.append({row: sign * many for row, many in left.items() if sign * many > 0})
    lead = tuple(sum(row[at] * many for row, many in sides[0].items()) for at in (0, 1))
    if lead != (0, 0):
        size = gcd(*lead)
        row = (-lead[0] // size, -lead[1] // size)
        for side in sides:
            side[row] = side.get(row, 0) + size
    return sides, lead


class Borders(Case):

    def test_by_hand(self):
        for _ in range(80):
            lot = random_lot(self.source, self.source.randint(1, 9), 2, self.source.choice((1, 2, 5, SIXTY)))
            found = border(lot)
            self.assertEqual(steps_of(lot), found)
            self.told(sorted(found), list(found))
            self.told((0, 0), tuple(sum(row[at] * many for row, many in found.items()) for at in (0, 1)))

    def test_known(self):
        self.assertEqual({(-1, -1): 1, (0, 1): 1, (1, 0): 1}, border(SLANT[0]))
        self.assertEqual({(-1, -1): 1, (1, 1): 1}, border(STICK))
        self.assertEqual({}, border(POINT))
        self.assertEqual({(-2, -3): 4, (2, 3): 4}, border(((0, 0), (2, 3), (4, 6), (8, 12))))
        self.told([(-1, 0), (0, -1), (0, 1), (1, 0)], list(border(SQUARE)))

    def test_lots_of_borders(self):
        for _ in range(80):
            lot = random_lot(self.source, self.source.randint(1, 9), 2, self.source.choice((1, 2, 5, 10 ** 50)))
            tips = corners(lot)
            found = border(lot)
            self.told(moved(tips, (-tips[0][0], -tips[0][1])), lot_with(found))
            turned = {row: found[row] for row in reversed(list(found))}
            self.told(lot_with(found), lot_with(turned))
        self.told(POINT, lot_with({}))
        self.told(((0, 0), (0, 2)), lot_with({(0, -1): 2, (0, 1): 2}))
        self.told(((0, 0), (SIXTY, 0)), lot_with({(1, 0): SIXTY, (-1, 0): SIXTY}))

    def test_sums(self):
        for _ in range(40):
            one, other = (random_lot(self.source, 6, 2, 3) for _ in range(2))
            total = border(summed(one, other))
            expected = border(one)
            for row, many in border(other).items():
                expected[row] = expected.get(row, 0) + many
            self.assertEqual(expected, total)

    def test_four_hundred(self):
        self.told(400, told.MOST_EDGES)
        lot = ring(7)
        found = border(lot)
        self.told(400, len(found))
        self.told(moved(lot, (-lot[0][0], -lot[0][1])), lot_with(found))
        more = dict(found)
        more.update({(10 ** 9, 1): 1, (-10 ** 9, -1): 1})
        self.fails(InvalidOperation, lot_with, more)
        # Numbers of sixty digits at all of four hundred rows.
        long = {row: many * (SIXTY // 10 ** 6) for row, many in found.items()}
        self.told(400, len(lot_with(long)))


class Rests(Case):

    def test_by_hand(self):
        for _ in range(80):
            reading = plane_reading(self.source)
            steps, others = steps_of(reading[0]), steps_of(reading[1])
            expected = {}
            for row in {**steps, **others}:
                if steps.get(row, 0) != others.get(row, 0):
                    expected[row] = steps.get(row, 0) - others.get(row, 0)
            self.assertEqual(expected, rest(reading))
            self.told(sorted(expected), list(rest(reading)))

    def test_differing_by_a_form(self):
        forms = 0
        for at in range(80):
            one = plane_reading(self.source, 5, 2)
            if at % 2:
                other = self.source.choice(same_functions(self.source, one)[0])
                row = random_row(self.source, 2, 5)
                other = (moved(other[0], row), other[1])
                self.told(row, row_between(one, other))
                self.told((-row[0], -row[1]), row_between(other, one))
            else:
                other = plane_reading(self.source, 4, 1)
            self.told(rest(one) == rest(other), row_between(one, other) is not None)
            row = row_between(one, other)
            if row is None:
                continue
            forms += 1
            for _ in range(10):
                x = random_row(self.source, 2, 20)
                self.told(tells(one, x) + dot(row, x), tells(other, x))
        self.assertGreater(forms, 35)
        self.told((0, 0), row_between(ALSO, SLANT))
        self.told(None, row_between(ALSO, (SQUARE, POINT)))
        self.told((2 * SIXTY, 0), row_between((((-SIXTY, 0),), POINT), (((SIXTY, 0),), POINT)))


class Least(Case):

    def test_by_words(self):
        for _ in range(120):
            reading = plane_reading(self.source, 8, self.source.choice((1, 2, 6)))
            found = least_reading(reading)
            sides, lead = least_by_words(reading)
            self.assertEqual(sides, [steps_of(lot) for lot in found])
            self.told((0, 0), found[1][0])
            self.told(found, tuple(corners(lot) for lot in found))
            for _ in range(10):
                row = random_row(self.source, 2, 9)
                self.told(tells(reading, row), tells(found, row))
            self.told(True, is_least(found))
            self.told(found, least_reading(found))

    def test_one_within_each_other_one(self):
        for _ in range(40):
            reading = plane_reading(self.source, 6, 3)
            found = least_reading(reading)
            others, double = same_functions(self.source, reading)
            for other in [reading] + others:
                self.told(found, least_reading(other))
                row = least_within(other)
                for lot, outer in zip(found, other):
                    self.told(True, lies_within([plus(point, row) for point in lot], outer))
                self.told(True, is_least_within(other, row))
            self.told(tuple(scaled(lot, 2) for lot in found), least_reading(double))
            # A form more moves P* alone.
            self.told((moved(found[0], (3, -4)), found[1]), least_reading((moved(reading[0], (3, -4)), reading[1])))

    def test_which_are_least(self):
        kinds = {True: 0, False: 0}
        for at in range(200):
            reading = plane_reading(self.source, 4, 1 if at % 2 else 3)
            found = least_reading(reading)
            if at % 4 == 0:
                row = random_row(self.source, 2, 5)
                reading = (moved(found[0], row), moved(found[1], row))
            elif at % 4 == 1:
                reading = same_functions(self.source, reading)[0][0]
            tips = tuple(corners(lot) for lot in reading)
            row = minus(tips[1][0], (0, 0))
            is_moved = tips == tuple(moved(lot, row) for lot in found)
            kinds[is_moved] += 1
            self.told(is_moved, is_least(reading))
            common = set(steps_of(reading[0])) & set(steps_of(reading[1]))
            self.told(len(common) <= 1, is_least(reading))
        self.assertGreater(min(kinds.values()), 30)
        self.told((True, False, False), (is_least(SLANT), is_least(ALSO), is_least((STICK, STICK))))
        # No stick is a part of both, and it is not least.
        self.told(False, is_least((TRIANGLE, scaled(TRIANGLE, 3))))

    def test_known(self):
        self.told(SLANT, least_reading(ALSO))
        self.told((POINT, POINT), least_reading((SQUARE, SQUARE)))
        self.told((POINT, STICK), least_reading((STICK, ((0, 0), (2, 2)))))
        self.told((((5, -2),), POINT), least_reading((((6, -1),), ((1, 1),))))
        # The closing edge has the direction of an edge.
        reading = (((0, 0), (3, 0)), ((0, 0), (0, 2)))
        self.told(reading, least_reading(reading))

    def test_depth_by_points(self):
        for _ in range(40):
            reading = plane_reading(self.source, 4, 2)
            found = least_reading(reading)
            self.told(not rest(reading), len(found[0]) + len(found[1]) == 2)

    def test_any_row_within_is_judged(self):
        for _ in range(40):
            reading = plane_reading(self.source, 5, 2)
            found = least_reading(reading)
            middle = least_within(reading)
            for x in range(-3, 4):
                for y in range(-3, 4):
                    row = plus(middle, (x, y))
                    inside = all(lies_within([plus(point, row) for point in lot], outer)
                                 for lot, outer in zip(found, reading))
                    self.told(inside, is_least_within(reading, row))
        self.told((True, False), (is_least_within(ALSO, (0, 0)), is_least_within(ALSO, (0, 1))))
        for value in ODD_VALUES + ((0,), (0, 0, 0), [0, 0], (False, 0), (0, "0"), (10 ** 99, 0)):
            self.told(False, is_least_within(ALSO, value))
        wide = (scaled(TRIANGLE, 10 ** 58), scaled(TRIANGLE, 10 ** 58))
        self.told(True, is_least_within(wide, (10 ** 57, 10 ** 57)))


class TakenOff(Case):

    def test_by_sums(self):
        for _ in range(100):
            reading = plane_reading(self.source, 6, 3)
            found = least_reading(reading)
            lot, stick, row = taken_off(reading)
            self.told((0, 0), lot[0])
            self.told(lot, corners(lot))
            for own, outer in zip(found, reading):
                self.told(summed(outer, stick), moved(summed(own, lot), row))
            _, lead = least_by_words(reading)
            if lead == (0, 0):
                self.told(POINT, stick)
            else:
                begin = stick[0] if minus(stick[1], stick[0]) == lead else stick[1]
                self.told(True, plus(begin, lead) in stick)
                # The stick begins where an edge of the lot along w does.
                way = way_of(lot)
                self.assertIn(begin, way)
                further = minus(way[(way.index(begin) + 1) % len(way)], begin)
                self.told(0, further[0] * lead[1] - further[1] * lead[0])
                self.assertGreaterEqual(dot(further, lead), dot(lead, lead))
            # The lot goes along what both have, and once along w.
            common = {key: min(many, steps_of(reading[1])[key]) for key, many in steps_of(reading[0]).items()
                      if key in steps_of(reading[1])}
            if lead != (0, 0):
                size = gcd(*lead)
                key = (lead[0] // size, lead[1] // size)
                common[key] = common.get(key, 0) + size
            self.assertEqual(common, steps_of(lot))

    def test_known(self):
        self.told((((0, 0), (0, 1), (1, 1)), ((0, 0), (1, 1)), (0, 0)), taken_off(ALSO))
        self.told((((0, 0), (1, 1)), ((0, 0), (1, 1)), (0, 0)), taken_off(SLANT))
        self.told((POINT, POINT, (4, 5)), taken_off((((7, 8),), ((4, 5),))))
        self.told((SQUARE, POINT, (0, 0)), taken_off((SQUARE, SQUARE)))


class Bounds(Case):

    def test_four_hundred_corners(self):
        one, other = ring(7), ring(11)
        found = least_reading((one, other))
        # Both close without a further edge.
        self.told((400, 400), (len(found[0]), len(found[1])))
        self.told(True, is_least((one, other)))
        self.told((POINT, POINT), taken_off((one, other))[:2])
        self.told(True, is_least_within((one, other), least_within((one, other))))
        self.told((POINT, POINT), least_reading((one, one)))

    def test_more_than_four_hundred(self):
        # P has each row of Q's triangle twice but the last one: what closes it is one edge more.
        rows = list(steps_of(ring(7)))
        one, other = rows[0], rows[1]
        total = plus(one, other)
        size = gcd(*total)
        last = (-total[0] // size, -total[1] // size)
        triangle = lot_with({one: 1, other: 1, last: size})
        wide = scaled(ring(7), 2)
        self.told([401, 2], [len(side) for side in least_by_words((wide, triangle))[0]])
        calls = (least_reading, taken_off, least_within, lambda value: is_least_within(value, (0, 0)))
        for call in calls:
            self.fails(TooMany, call, (wide, triangle), limit=400)
            self.fails(TooMany, call, (triangle, wide), limit=400)
        self.told((False, False), (is_least((wide, triangle)), is_least((triangle, wide))))
        # Just so many are told.
        self.told(400, len(least_reading((wide, POINT))[0]))

    def test_more_than_four_hundred_of_what_is_taken_off(self):
        rows = [(k, 1) for k in range(-99, 100)] + [(1, 0)]
        steps = {row: 1 for row in rows + [(-x, -y) for x, y in rows]}
        self.told(400, len(steps))

        def with_more(more):
            return lot_with({row: many + more.get(row, 0) for row, many in steps.items()})
        reading = (with_more({(2, 1): 1, (3, 1): 1, (-1, 0): 5, (0, -1): 2}),
                   with_more({(1, 0): 5, (0, 1): 2, (-1, 0): 5, (0, -1): 2}))
        self.told((3, 3), tuple(len(lot) for lot in least_reading(reading)))
        self.fails(TooMany, taken_off, reading, limit=400)
        self.told(True, is_least_within(reading, least_within(reading)))

    def test_sixty_digits(self):
        for _ in range(20):
            reading = tuple(random_lot(self.source, 5, 2, SIXTY) for _ in range(2))
            found = least_reading(reading)
            for _ in range(5):
                row = random_row(self.source, 2, SIXTY)
                self.told(tells(reading, row), tells(found, row))
            lot, stick, row = taken_off(reading)
            self.told(True, is_least_within(reading, row))


class Errors(Case):

    def test_lots(self):
        for bad in BAD_LOTS + ODD_VALUES:
            self.fails(InvalidLot, border, bad)
        for lot in (((0,), (1,)), ((1, 2, 3),)):
            self.fails(InvalidOperation, border, lot)

    def test_borders(self):
        for bad in BAD_BORDERS:
            if bad != {}:
                self.fails(InvalidOperation, lot_with, bad)

    def test_readings(self):
        calls = (rest, least_reading, is_least, taken_off, least_within, lambda value: is_least_within(value, None))
        for call in calls:
            for bad in BAD_READINGS:
                self.fails(InvalidReading, call, bad)
            for reading in (NARROW, WIDE):
                self.fails(InvalidOperation, call, reading)

    def test_two_readings(self):
        for bad in BAD_READINGS:
            self.fails(InvalidReading, row_between, bad, ALSO)
            self.fails(InvalidReading, row_between, ALSO, bad)
            self.fails(InvalidReading, row_between, NARROW, bad)
            self.fails(InvalidReading, row_between, bad, bad)
        for reading in (NARROW, WIDE):
            self.fails(InvalidOperation, row_between, reading, ALSO)
            self.fails(InvalidOperation, row_between, ALSO, reading)
            self.fails(InvalidOperation, row_between, reading, reading)

    def test_nothing_changes(self):
        steps = {(1, 0): 2, (-1, 0): 2}
        lot_with(steps)
        self.assertEqual([((1, 0), 2), ((-1, 0), 2)], list(steps.items()))
        for call in (lambda: border(SQUARE), lambda: rest(ALSO)):
            one, other = call(), call()
            one.clear()
            self.assertEqual(other, call())
        for call in (lambda: least_reading(ALSO), lambda: taken_off(ALSO), lambda: least_within(ALSO)):
            self.assertTrue(same(call(), call()))
