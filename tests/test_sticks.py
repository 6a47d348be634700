"""Stage 13: sums of sticks."""

from itertools import combinations, product
from math import gcd

from tests.helpers import (
    ODD_VALUES, SIXTY, Case, changed, dot, longest, lot_of, minus, moments, plus, random_lot, random_row, same, scale,
    span, value)
from tests.test_corners import BAD_LOTS, CUBE

from rampworks.errors import InvalidLot, InvalidOperation, InvalidRow, TooMany
from rampworks.hull.corners import corners
from rampworks.hull.sums import face, moved, summed
from rampworks.stick import sticks as told
from rampworks.stick.sticks import (
    bared, is_bundle, is_sticks_or_plate, is_symmetric, made_by, most_stick, plate_at, sticks_or_plate)

TRIANGLE, SQUARE = ((0, 0), (0, 1), (1, 0)), ((0, 0), (0, 1), (1, 0), (1, 1))
STICK, POINT = ((0, 0), (1, 1)), ((0, 0),)
HEXAGON, SOLID = ((0, 0), (0, 1), (1, 0), (1, 2), (2, 1), (2, 2)), ((0, 0, 0), (0, 0, 1), (0, 1, 0), (1, 0, 0))
PRISM = ((0, 0, 0), (0, 0, 2), (0, 1, 0), (0, 1, 2), (1, 0, 0), (1, 0, 2))
BUNDLE = (((0, 1), 1), ((1, 0), 1), ((1, 1), 1))
BAD_BUNDLES = ODD_VALUES + (
    (((0, 1), 0),), (((0, 1), -1),), (((0, 1), True),), (((0, 1), "1"),), (((0, 1),),), (((0, 1), 1, 1),),
    ([(0, 1), 1],),
    [((0, 1), 1)], (((0, -1), 1),), (((-1, 0), 1),), (((0, 0), 1),), (((2, 0), 1),), (((0, 2), 1),), (((True, 0), 1),),
    (([0, 1], 1),), (((), 1),), (((1,) * 5, 1),), (((1, 0), 1), ((0, 1), 1)), (((0, 1), 1), ((0, 1), 1)),
    (((0, 1), 1), ((0, 1), 2)), (((0, 1), 1), ((0, 1, 1), 1)), (((0, 1), 1), None), ((0, 1), 1), {((0, 1), 1): 1},
    tuple(((1, k), 1) for k in range(31)))
BAD_STICK_ROWS = ODD_VALUES + (
    (0, 0), (2, 0), (0, -1), (-1, 2), (1,), (1, 0, 0), [1, 0], (True, 0), (SIXTY + 1, 1), (1, SIXTY + 1), ("1", 0))
FIVE = ((0, 0, 0, 0, 0), (1, 1, 1, 1, 1))


def stick_row(source, length, size=2):
    """A primitive row whose first member that is not 0 is above 0."""
    while True:
        row = random_row(source, length, size)
        if any(row):
            row = tuple(x // gcd(*row) for x in row)
            return row if next(x for x in row if x) > 0 else scale(row, -1)


def random_bundle(source, length, many, size=2):
    rows = sorted({stick_row(source, length, size) for _ in range(many)})
    return tuple((row, source.randint(1, 3)) for row in rows)


def sums_of(row, bundle):
    """All sums of ends of sticks and the row."""
    points = [row]
    for lead, c in bundle:
        points += [plus(point, scale(lead, c)) for point in points]
    return lot_of(points)


def ramps_of(row, bundle, x):
    return dot(row, x) + sum(c * max(0, dot(lead, x)) for lead, c in bundle)


def across(source, row, many):
    """Rows y with a y = 0."""
    found = []
    for _ in range(many):
        y = [0] * len(row)
        for one, other in combinations(range(len(row)), 2):
            k = source.randint(-9, 9)
            y[one] += k * row[other]
            y[other] -= k * row[one]
        found.append(tuple(y))
    return found


def length_at(lot, row, y):
    """The length along the row at y; None if the greatest points do not lie on one line along it."""
    greatest = value(lot, y)
    points = [point for point in lot if dot(point, y) == greatest]
    place = next(at for at, x in enumerate(row) if x)
    many = [(point[place] - points[0][place]) // row[place] for point in points]
    if any(plus(points[0], scale(row, k)) != point for k, point in zip(many, points)):
        return None
    return max(many) - min(many)


def is_plate(points):
    return span([minus(point, points[0]) for point in points[1:]]) == 2 if len(points) > 2 else False


def symmetric(points):
    total = plus(min(points), max(points))
    return all(minus(total, point) in points for point in points)


class Bundles(Case):

    def test_which_values_are_bundles(self):
        for bundle in ((), (((1,), 5),), BUNDLE, (((0, 0, 0, 1), 1), ((1, -2, 3, -4), 7)), (((1, 10 ** 99), 10 ** 99),),
                       tuple(((1, k), 1) for k in range(30))):
            self.told(True, is_bundle(bundle))
        for bundle in BAD_BUNDLES:
            if bundle != ():
                self.told(False, is_bundle(bundle))
        self.told(30, told.MOST_STICKS)

    def test_what_they_make(self):
        for _ in range(80):
            length = self.source.randint(1, 4)
            bundle = random_bundle(self.source, length, self.source.randint(0, 4), self.source.choice((1, 2, 9)))
            row = random_row(self.source, length, 5)
            found = made_by(row, bundle)
            self.told(corners(sums_of(row, bundle)), found)
            self.assertGreaterEqual(len(found), max(1, 2 * len(bundle)))
            self.told(True, is_symmetric(found))
            for _ in range(8):
                x = random_row(self.source, length, 9)
                self.told(ramps_of(row, bundle, x), value(found, x))

    def test_known(self):
        self.told(HEXAGON, made_by((0, 0), BUNDLE))
        self.told(((7, 8),), made_by((7, 8), ()))
        self.told(((-3,), (2,)), made_by((-3,), (((1,), 5),)))
        self.told(CUBE, made_by((0, 0, 0), (((0, 0, 1), 1), ((0, 1, 0), 1), ((1, 0, 0), 1))))
        self.told(((SIXTY,), (2 * SIXTY,)), made_by((SIXTY,), (((1,), SIXTY),)))

    def test_sixty_and_more(self):
        bundle = tuple(((1, k), k + 1) for k in range(30))
        self.told(60, len(made_by((0, 0), bundle)))
        curve = tuple(((1, k, k * k), 1) for k in range(9))
        self.told(58, len(made_by((0, 0, 0), curve[:8])))
        self.fails(TooMany, made_by, (0, 0, 0), curve, limit=60)
        wide = tuple(((1, k, k * k, k ** 3), 1) for k in range(30))
        self.told(52, len(made_by((0, 0, 0, 0), wide[:6])))
        self.fails(TooMany, made_by, (0, 0, 0, 0), wide[:7], limit=60)
        self.fails(TooMany, made_by, (0, 0, 0, 0), wide, limit=60)


class Symmetric(Case):

    def test_by_hand(self):
        kinds = {True: 0, False: 0}
        for at in range(100):
            length = self.source.randint(1, 4)
            lot = random_lot(self.source, self.source.randint(1, 6), length, 2)
            if at % 2:
                lot = lot_of(lot + tuple(minus(lot[0], point) for point in lot))
            tips = corners(lot)
            kinds[symmetric(tips)] += 1
            self.told(symmetric(tips), is_symmetric(lot))
        self.assertGreater(min(kinds.values()), 20)
        self.told((True, False, True), (is_symmetric(HEXAGON), is_symmetric(TRIANGLE), is_symmetric(POINT)))
        # A symmetric lot that no bundle makes.
        eight = lot_of(row for row in product((-1, 0, 1), repeat=3) if sum(map(abs, row)) == 1)
        self.told(True, is_symmetric(eight))
        self.told("plate", sticks_or_plate(eight)[0])
        # Points that are no corners do not count.
        self.told(True, is_symmetric(((0, 0), (0, 2), (1, 0), (2, 0), (2, 1), (2, 2))))


class Plates(Case):

    def test_by_hand(self):
        full = 0
        for _ in range(300):
            length = self.source.randint(2, 4)
            lot = random_lot(self.source, self.source.randint(1, 9), length, 1)
            row = random_row(self.source, length, 1) if self.source.random() < 0.8 else (0,) * length
            expected = face(lot, row)
            found = plate_at(lot, row)
            self.told(expected if is_plate(expected) else None, found)
            full += found is not None
        self.assertGreater(full, 30)
        self.told(((0, 0, 0), (0, 1, 0), (1, 0, 0)), plate_at(SOLID, (0, 0, -1)))
        self.told(None, plate_at(SOLID, (1, 1, 0)))
        self.told(None, plate_at(SOLID, (0, 0, 0)))
        self.told(None, plate_at(STICK, (0, 0)))
        self.told(SQUARE, plate_at(((0, 0), (0, 1), (1, 0), (1, 1)), (0, 0)))
        self.told(None, plate_at(((0,), (5,)), (0,)))


class Parts(Case):

    def test_how_great_a_stick_is_a_part(self):
        for _ in range(60):
            length = self.source.randint(1, 4)
            bundle = random_bundle(self.source, length, self.source.randint(0, 2), 1)
            lot = summed(made_by((0,) * length, bundle), random_lot(self.source, self.source.randint(1, 4), length, 2))
            for row in {stick_row(self.source, length, 1) for _ in range(3)} | {row for row, _ in bundle}:
                found = most_stick(lot, row)
                self.assertGreaterEqual(found, dict(bundle).get(row, 0))
                lengths = [length_at(lot, row, y) for y in across(self.source, row, 60)]
                lengths = [many for many in lengths if many is not None]
                # It is the least length that was met.
                self.told(found, min(lengths))

    def test_put_to_a_lot_it_is_a_part(self):
        for _ in range(40):
            length = self.source.randint(1, 4)
            lot, row = random_lot(self.source, self.source.randint(1, 5), length, 2), stick_row(self.source, length)
            many = self.source.randint(1, 9)
            total = summed(lot, made_by((0,) * length, ((row, many),)))
            self.told(most_stick(lot, row) + many, most_stick(total, row))
            other = stick_row(self.source, length)
            if other != row:
                self.told(most_stick(lot, other), most_stick(total, other))

    def test_known(self):
        self.told((2, 0, 1, 0), (most_stick(PRISM, (0, 0, 1)), most_stick(PRISM, (0, 1, 0)), most_stick(
            STICK, (1, 1)), most_stick(STICK, (1, 0))))
        self.told(7, most_stick(((0,), (3,), (7,)), (1,)))
        self.told(0, most_stick(((3,),), (1,)))
        self.told(3, most_stick(((2, 2), (5, 8)), (1, 2)))
        self.told(0, most_stick(POINT, (1, 0)))
        # The points on the sides are no corners.
        self.told(2, most_stick(((0, 0), (0, 1), (0, 2), (3, 0), (3, 2)), (0, 1)))

    def test_bared(self):
        for _ in range(60):
            length = self.source.randint(1, 4)
            bundle = random_bundle(self.source, length, self.source.randint(0, 3), 1)
            other = random_lot(self.source, self.source.randint(1, 4), length, 2)
            lot = summed(made_by((0,) * length, bundle), other)
            found, rest = bared(lot)
            self.told(True, is_bundle(found))
            self.told(corners(lot), summed(made_by((0,) * length, found), rest))
            self.told(rest, corners(rest))
            for row in {minus(one, two) for one, two in combinations(rest, 2)}:
                size = gcd(*row)
                row = tuple(x // size for x in row)
                row = row if row > (0,) * length else scale(row, -1)
                self.told(0, most_stick(rest, row))
            # Just one way: what was bared of the other lot, and the bundle.
            expected, left = bared(other)
            expected = dict(expected)
            for row, many in bundle:
                expected[row] = expected.get(row, 0) + many
            self.told((tuple(sorted(expected.items())), left), (found, rest))

    def test_known_bared(self):
        self.told(((((0, 0, 1), 2),), ((0, 0, 0), (0, 1, 0), (1, 0, 0))), bared(PRISM))
        self.told(((((1, 2), 3),), ((2, 2),)), bared(((2, 2), (5, 8))))
        self.told((BUNDLE, POINT), bared(HEXAGON))
        self.told(((), TRIANGLE), bared(TRIANGLE))
        self.told(((), POINT), bared(POINT))


class Either(Case):

    def test_right_by_sums(self):
        kinds = {"sticks": 0, "plate": 0}
        for at in range(200):
            length = self.source.randint(1, 4)
            bundle = random_bundle(self.source, length, self.source.randint(0, 4), 1)
            row = random_row(self.source, length, 9)
            lot = made_by(row, bundle)
            if at % 2:
                lot = summed(lot, random_lot(self.source, self.source.randint(2, 4), length, 2))
            if len(corners(lot)) > 60:
                continue
            found = sticks_or_plate(lot)
            kinds[found[0]] += 1
            self.told(True, is_sticks_or_plate(lot, found))
            if at % 2 == 0:
                self.told(("sticks", row, bundle), found)
            if found[0] == "sticks":
                self.told(corners(lot), made_by(found[1], found[2]))
                self.told((found[2], (found[1],)), bared(lot))
            else:
                points = face(lot, found[1])
                self.told(True, is_plate(points) and not symmetric(points))
                self.assertNotEqual(1, len(bared(lot)[1]))
            for plain in (lot, moved(lot, (3,) * length), lot_of(lot + (lot[0],))):
                self.told(found[0], sticks_or_plate(plain)[0])
        self.assertGreater(min(kinds.values()), 30)

    def test_points_that_are_no_corners(self):
        self.told(("sticks", (0, 0), (((0, 1), 2), ((1, 0), 2))), sticks_or_plate(lot_of(product((0, 1, 2), repeat=2))))

    def test_unlike_over_one_edge_alone(self):
        # Symmetric plates all around but the two ends.
        house = lot_of([(x, 0, z) for x in (0, 2) for z in (0, 2)] + [(x, 5, z) for x in (0, 2) for z in (0, 3)])
        found = sticks_or_plate(house)
        self.told("plate", found[0])
        self.told(False, symmetric(face(house, found[1])))
        # As many edges along each direction as along each other one, in no bundle.
        self.told("plate", sticks_or_plate(lot_of([(0, 0, 0), (1, 1, 0), (1, 0, 1), (0, 1, 1)]))[0])

    def test_judge_of_sticks(self):
        paper = ("sticks", (0, 0), BUNDLE)
        self.judges(lambda value: is_sticks_or_plate(HEXAGON, value), paper)
        self.refuses_all(lambda value: is_sticks_or_plate(HEXAGON, value), changed(paper))
        self.told(False, is_sticks_or_plate(HEXAGON, ("sticks", (0, 0), BUNDLE[::-1])))
        for bundle in BAD_BUNDLES:
            self.told(False, is_sticks_or_plate(HEXAGON, ("sticks", (0, 0), bundle)))
        self.told(False, is_sticks_or_plate(TRIANGLE, ("sticks", (0, 0), BUNDLE[:2])))
        self.told(True, is_sticks_or_plate(((5,),), ("sticks", (5,), ())))

    def test_judge_of_plates(self):
        self.judges(lambda value: is_sticks_or_plate(SOLID, value), ("plate", (1, 1, 1)))
        right = 0
        for row in product((-1, 0, 1, 2), repeat=3):
            points = face(SOLID, row)
            expected = is_plate(points) and not symmetric(points)
            right += expected
            self.told(expected, is_sticks_or_plate(SOLID, ("plate", row)))
        self.assertGreater(right, 4)
        self.told(True, is_sticks_or_plate(SOLID, ("plate", (10 ** 99,) * 3)))
        self.told(True, is_sticks_or_plate(TRIANGLE, ("plate", (0, 0))))
        for row in ((1, 0), (0, 0), (5, -3)):
            self.told(False, is_sticks_or_plate(HEXAGON, ("plate", row)))
        # A symmetric plate shows nothing, though the lot is none of sticks.
        self.told((False, True), (is_sticks_or_plate(PRISM, ("plate", (-1, 0, 0))), is_sticks_or_plate(
            PRISM, ("plate", (0, 0, 1)))))


class Bounds(Case):

    def test_sixty_corners(self):
        for length in (2, 3, 4):
            curve = moments(60, length) if length > 2 else lot_of((k, k ** 3) for k in range(60))
            found = sticks_or_plate(curve)
            points = face(curve, found[1])
            self.told(True, is_plate(points) and not symmetric(points))
            self.told(((), curve), bared(curve))
            self.told(0, most_stick(curve, (1,) + (0,) * (length - 1)))
            self.told(False, is_symmetric(curve))
            more = moments(61, length)
            for call in (is_symmetric, bared, sticks_or_plate, lambda lot: plate_at(lot, (0,) * length),
                         lambda lot: most_stick(lot, (1,) + (0,) * (length - 1)),
                         lambda lot: is_sticks_or_plate(lot, None)):
                self.fails(TooMany, call, more, limit=60)
        ring = made_by((0, 0), tuple(((1, k), k + 1) for k in range(30)))
        self.told(("sticks", (0, 0), tuple(((1, k), k + 1) for k in range(30))), sticks_or_plate(ring))
        bundle = tuple(((1, k, k * k), 2) for k in range(8))
        self.told((bundle, ((1, 2, 3),)), bared(made_by((1, 2, 3), bundle)))
        bundle = tuple(((1, k, k * k, k ** 3), 2) for k in range(6))
        self.told(("sticks", (1, 2, 3, 4), bundle), sticks_or_plate(made_by((1, 2, 3, 4), bundle)))

    def test_many_points_that_are_no_corners(self):
        line = tuple((at, at, 0, 0) for at in range(400))
        self.told(("sticks", (0, 0, 0, 0), (((1, 1, 0, 0), 399),)), sticks_or_plate(line))
        grid = lot_of(product(range(20), repeat=2))
        self.told(("sticks", (0, 0), (((0, 1), 19), ((1, 0), 19))), sticks_or_plate(grid))

    def test_fifty_digits(self):
        for length in (3, 4):
            for _ in range(10):
                lot = random_lot(self.source, 9, length, 99999)
                found = sticks_or_plate(lot)
                self.told("plate", found[0])
                self.assertLessEqual(longest(found), 50)
                self.told(False, symmetric(face(lot, found[1])))

    def test_flat_lots(self):
        for _ in range(30):
            rows = [random_row(self.source, 4, 2) for _ in range(2)]
            lot = lot_of(plus(scale(rows[0], self.source.randint(0, 2)), scale(rows[1], self.source.randint(0, 2)))
                         for _ in range(5))
            found = sticks_or_plate(lot)
            if found[0] == "sticks":
                self.told(corners(lot), made_by(found[1], found[2]))
            else:
                self.told(False, symmetric(face(lot, found[1])))
                self.told(True, is_plate(face(lot, found[1])))
            bundle, rest = bared(lot)
            self.told(corners(lot), summed(made_by((0,) * 4, bundle), rest))


class Errors(Case):

    def test_lots(self):
        calls = (is_symmetric, lambda lot: plate_at(lot, (0, 0)), lambda lot: most_stick(lot, (1, 0)), bared,
                 sticks_or_plate, lambda lot: is_sticks_or_plate(lot, None))
        for bad in BAD_LOTS + ODD_VALUES:
            for call in calls:
                self.fails(InvalidLot, call, bad)
            self.fails(InvalidLot, plate_at, bad, None)
            self.fails(InvalidLot, most_stick, bad, None)
        five = lot_of(random_row(self.source, 5, 9) for _ in range(100))
        for lot in (FIVE, five):
            for call in (is_symmetric, bared, sticks_or_plate, lambda lot: is_sticks_or_plate(lot, None),
                         lambda lot: plate_at(lot, (0,) * 5), lambda lot: most_stick(lot, (1, 0, 0, 0, 0)),
                         lambda lot: plate_at(lot, (0, 0)), lambda lot: most_stick(lot, (1, 0))):
                self.fails(InvalidOperation, call, lot)

    def test_rows_of_plates(self):
        bad_rows = ODD_VALUES + ((0,) * 9, [0, 0], (True, 0), (SIXTY + 1, 0), ())
        for bad in bad_rows:
            if not (isinstance(bad, tuple) and bad and all(type(x) is int and abs(x) <= SIXTY for x in bad)
                    and len(bad) <= 8):
                self.fails(InvalidRow, plate_at, SQUARE, bad)
                self.fails(InvalidRow, plate_at, moments(61, 2), bad)
        self.fails(InvalidOperation, plate_at, SQUARE, (0,))
        self.fails(InvalidOperation, plate_at, SQUARE, (0, 0, 0))
        # Unlike lengths come ahead of too many corners.
        self.fails(InvalidOperation, plate_at, moments(61, 2), (0,))

    def test_rows_of_sticks(self):
        for bad in BAD_STICK_ROWS:
            self.fails(InvalidOperation, most_stick, SQUARE, bad)
            self.fails(InvalidOperation, most_stick, moments(61, 2), bad)

    def test_of_made_by(self):
        for bad in ODD_VALUES + ((0,) * 5, (), [0, 0], (True,), (SIXTY + 1,)):
            if not (isinstance(bad, tuple) and 1 <= len(bad) <= 4
                    and all(type(x) is int and abs(x) <= SIXTY for x in bad)):
                self.fails(InvalidRow, made_by, bad, ())
                self.fails(InvalidRow, made_by, bad, None)
        for bad in BAD_BUNDLES:
            if bad != ():
                self.fails(InvalidOperation, made_by, (0, 0), bad)
        self.fails(InvalidOperation, made_by, (0,), BUNDLE)
        self.fails(InvalidOperation, made_by, (0, 0, 0), BUNDLE)
        for long in ((((1, SIXTY + 1), 1),), (((1, 0), SIXTY + 1),)):
            self.told(True, is_bundle(long))
            self.fails(InvalidOperation, made_by, (0, 0), long)

    def test_judges_let_each_value(self):
        for value in ODD_VALUES:
            self.told(value == () and isinstance(value, tuple), is_bundle(value))
            for lot in (TRIANGLE, HEXAGON, POINT):
                self.told(False, is_sticks_or_plate(lot, value))

    def test_equal_calls(self):
        for lot in (TRIANGLE, HEXAGON, PRISM):
            self.assertTrue(same(sticks_or_plate(lot), sticks_or_plate(lot)))
            self.assertTrue(same(bared(lot), bared(lot)))
