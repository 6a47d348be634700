"""Stage 4: volumes."""

from itertools import combinations, product
from math import comb, factorial, gcd

from tests.helpers import (
    ODD_VALUES, SIXTY, Case, changed, det, dot, lot_of, minus, mix, moments, plus, random_lot, random_row, scale, span)
from tests.test_corners import BAD_LOTS, CUBE

from rampworks.errors import InvalidLot, InvalidOperation, TooMany
from rampworks.hull import volumes as told
from rampworks.hull.corners import corners
from rampworks.hull.sums import moved, scaled, summed, turned
from rampworks.hull.volumes import is_parting, own_volume, parting, volume

TRIANGLE, SQUARE, STICK = ((0, 0), (0, 1), (1, 0)), ((0, 0), (0, 1), (1, 0), (1, 1)), ((0, 0), (1, 1))


def size(points):
    return abs(det([minus(point, points[0]) for point in points[1:]]))


def area_twice(lot):
    """Twice the area of a lot of the plane, by the way round its corners."""
    tips = corners(lot)
    if len(tips) < 3:
        return 0
    middle = [sum(p[k] for p in tips) for k in (0, 1)]
    many = len(tips)
    lifted = [tuple(many * x - m for x, m in zip(p, middle)) for p in tips]
    half = lambda p: 0 if (p[1], p[0]) > (0, 0) else 1
    order = []
    for p in lifted:
        at = 0
        while at < len(order) and (half(order[at]), 0) <= (half(p), 0) and (
                half(order[at]) < half(p) or order[at][0] * p[1] - order[at][1] * p[0] > 0):
            at += 1
        order.insert(at, p)
    total = sum(order[k - 1][0] * order[k][1] - order[k - 1][1] * order[k][0] for k in range(many))
    return abs(total) // (many * many)


class Volumes(Case):

    def check(self, lot):
        """The paper of a lot is right; gives its volume."""
        paper, length = parting(lot), len(lot[0])
        self.told(True, is_parting(lot, paper))
        if paper[0] == "flat":
            self.assertTrue(any(paper[1]))
            self.told([dot(paper[1], lot[0])] * len(lot), [dot(paper[1], point) for point in lot])
            total = 0
        else:
            self.told(tuple(sorted(set(paper[1]))), paper[1])
            self.told({length + 1}, {len(simplex) for simplex in paper[1]})
            sizes = [size([lot[index] for index in simplex]) for simplex in paper[1]]
            self.assertGreater(min(sizes), 0)
            total = sum(sizes)
        self.told(span([minus(point, lot[0]) for point in lot]) < length, paper[0] == "flat")
        self.told(total, volume(lot))
        return total

    def random(self, most=12):
        length = self.source.randint(1, 4)
        return random_lot(self.source, self.source.randint(1, most), length, self.source.choice((1, 2, 5, SIXTY)))

    def test_right_by_sums(self):
        for _ in range(120):
            self.check(self.random())

    def test_flat_lots(self):
        for length in (1, 2, 3, 4):
            for spanned in range(length):
                heads = [random_row(self.source, length, 5) for _ in range(spanned)]
                points = [mix(random_row(self.source, spanned, 3), heads) for _ in range(9 * len(heads))]
                self.told(0, self.check(lot_of(points or [(3,) * length])))

    def test_known(self):
        for length in (1, 2, 3, 4):
            self.told(factorial(length), self.check(tuple(product((0, 1), repeat=length))))
            self.told(factorial(length) * 2 ** length, self.check(tuple(product((0, 1, 2), repeat=length))))
            cross = lot_of(row for row in product((-1, 0, 1), repeat=length) if sum(map(abs, row)) == 1)
            self.told(2 ** length, self.check(cross))
            simplex = lot_of(row for row in product((0, 1), repeat=length) if sum(row) < 2)
            self.told(1, self.check(simplex))
            self.told((2 * SIXTY) ** length * factorial(length), self.check(
                tuple(product((-SIXTY, SIXTY), repeat=length))))

    def test_plane_by_areas(self):
        for _ in range(60):
            lot = random_lot(self.source, self.source.randint(1, 14), 2, self.source.choice((2, 9, 10 ** 20)))
            self.told(area_twice(lot), volume(lot))

    def test_what_keeps_it(self):
        for _ in range(50):
            lot = self.random(8)
            length, total = len(lot[0]), volume(lot)
            self.told(total, volume(corners(lot)))
            if max(abs(x) for point in lot for x in point) < 100:
                self.told(total, volume(moved(lot, random_row(self.source, length, 9))))
                self.told(total, volume(turned(lot)))
                for number in (0, 1, 3):
                    self.told(number ** length * total, volume(scaled(lot, number)))
                table = [random_row(self.source, length, 3) for _ in range(length)]
                through = lot_of(mix(point, table) for point in lot)
                self.told(abs(det(table)) * total, volume(through))
                self.assertGreaterEqual(volume(lot_of(lot + (random_row(self.source, length, 4),))), total)
                twice = lot_of([scale(p, 2) for p in lot] + [plus(p, q) for p, q in combinations(lot, 2)])
                self.told(2 ** length * total, volume(twice))

    def test_cut_by_a_plane(self):
        cube = tuple(product((0, 1, 2), repeat=3))
        for row, at in (
                ((1, 0, 0), 1), ((0, 0, 1), 1), ((1, 1, 0), 2), ((0, 1, -1), 0), ((1, 1, 1), 4), ((1, 1, 1), 2)):
            one = tuple(point for point in cube if dot(row, point) <= at)
            other = tuple(point for point in cube if dot(row, point) >= at)
            self.told(48, volume(one) + volume(other))

    def test_parity(self):
        for _ in range(60):
            length = self.source.choice((1, 2, 4))
            one, other = (random_lot(self.source, length + 2, length, 2) for _ in range(2))
            left, right = volume(one), volume(other)
            total = summed(one, other)
            if len(total) <= 60:
                self.told((left + right) % 2, volume(total) % 2)
            for number in (1, 2, 3):
                self.told(number * left % 2, volume(scaled(one, number)) % 2)

    def test_parity_fails_for_three(self):
        simplex = ((0, 0, 0), (0, 0, 1), (0, 1, 0), (1, 0, 0))
        self.told(8, volume(summed(simplex, simplex)))
        odd = [(one, other) for one, other in combinations(
            [random_lot(self.source, 4, 3, 1) for _ in range(12)], 2)
            if (volume(one) + volume(other) + volume(summed(one, other))) % 2]
        self.assertTrue(odd)

    def test_constant(self):
        self.told(60, told.MOST_CORNERS)


class Judge(Case):

    def test_square(self):
        judge = lambda value: is_parting(SQUARE, value)
        for paper in (("parted", ((0, 1, 2), (1, 2, 3))), ("parted", ((0, 1, 3), (0, 2, 3)))):
            self.judges(judge, paper)
            self.refuses_all(judge, changed(paper))
        wrong = (
            ((0, 1, 2), (0, 1, 3), (0, 2, 3), (1, 2, 3)), ((0, 1, 2),), ((1, 2, 3),), ((0, 1, 2), (0, 1, 3)),
            ((0, 1, 2), (0, 2, 3)), ((1, 2, 3), (0, 1, 2)), ((0, 1, 2), (0, 1, 2), (1, 2, 3)), ((0, 1, 2), (1, 3, 2)),
            ((0, 1, 2), (1, 2, 3), (1, 2, 3)), (), ((0, 1, 2), (1, 2, 4)), ((0, 1, 2), (-2, 1, 3)), ((0, 1), (1, 2, 3)))
        self.refuses_all(judge, [("parted", simplices) for simplices in wrong])
        self.refuses_all(judge, [("flat", row) for row in product((-1, 0, 1), repeat=2)])

    def test_whole_way_round_twice(self):
        # A star of five points round a middle: each of its triangles lies in the hull, which is covered twice.
        tips = [(0, 10), (10, 3), (6, -8), (-6, -8), (-10, 3)]
        lot = lot_of(tips + [(0, 0)])
        middle = lot.index((0, 0))
        ring = [lot.index(tip) for tip in tips]
        once = sorted(tuple(sorted((middle, ring[k - 1], ring[k]))) for k in range(5))
        twice = sorted(tuple(sorted((middle, ring[k - 2], ring[k]))) for k in range(5))
        self.told(True, is_parting(lot, ("parted", tuple(once))))
        self.told(False, is_parting(lot, ("parted", tuple(twice))))
        self.told(False, is_parting(lot, ("parted", tuple(sorted(once + twice)))))

    def test_covered_twice_by_unlike_facets(self):
        # The sides of the great triangle are facets of it alone, their halves are facets of small ones.
        lot = ((0, 0), (0, 3), (0, 6), (3, 0), (3, 3), (6, 0))
        small, great = ((0, 1, 3), (1, 2, 4), (1, 3, 4), (3, 4, 5)), ((0, 2, 5),)
        self.told(True, is_parting(lot, ("parted", small)))
        self.told(True, is_parting(lot, ("parted", great)))
        self.told(False, is_parting(lot, ("parted", tuple(sorted(small + great)))))

    def test_middle_on_a_rim(self):
        # The middle of the first simplex is a point, at which three others meet.
        lot = ((0, 0), (0, 9), (0, 18), (3, 3), (9, 0), (9, 9), (18, 0))
        small, great = ((0, 1, 4), (1, 2, 5), (1, 4, 5), (4, 5, 6)), ((0, 2, 3), (0, 3, 6), (2, 3, 6))
        self.told(True, is_parting(lot, ("parted", small)))
        self.told(True, is_parting(lot, ("parted", great)))
        self.told(False, is_parting(lot, ("parted", tuple(sorted(small + great)))))
        # The middle lies on a side of two others.
        lot = ((0, 0), (0, 9), (0, 18), (6, 6), (9, 0), (9, 9), (18, 0))
        great = ((0, 2, 3), (0, 3, 6), (2, 3, 6))
        self.told(True, is_parting(lot, ("parted", great)))
        self.told(False, is_parting(lot, ("parted", tuple(sorted(small + great)))))

    def test_facets_with_two_on_one_side(self):
        # Both partings of a small square within the second triangle of a great one.
        lot = ((0, 0), (0, 10), (7, 7), (7, 8), (8, 7), (8, 8), (10, 0), (10, 10))
        great, small = ((0, 1, 6), (1, 6, 7)), ((2, 3, 4), (2, 3, 5), (2, 4, 5), (3, 4, 5))
        self.told(True, is_parting(lot, ("parted", great)))
        self.told(False, is_parting(lot, ("parted", great + small)))

    def test_facets_with_three(self):
        line = tuple((k,) for k in range(6))
        self.told(True, is_parting(line, ("parted", ((0, 1), (1, 2), (2, 5)))))
        self.told(False, is_parting(line, ("parted", ((0, 1), (1, 2), (2, 3), (2, 4), (2, 5), (3, 4)))))
        self.told(False, is_parting(line, ("parted", ((0, 1), (1, 2), (2, 3), (2, 5), (3, 5)))))
        self.told(False, is_parting(line, ("parted", ((0, 1), (1, 2), (1, 3), (2, 4), (3, 4), (4, 5)))))

    def test_points_within_may_be_used(self):
        lot = ((0, 0), (0, 2), (1, 1), (2, 0), (2, 2))
        for simplices in (
                ((0, 1, 2), (0, 2, 3), (1, 2, 4), (2, 3, 4)), ((0, 1, 3), (1, 3, 4)), ((0, 1, 4), (0, 3, 4))):
            self.judges(lambda value: is_parting(lot, value), ("parted", simplices))
        # A facet on the rim that is parted, and a way over a point.
        line = ((0,), (1,), (2,), (5,))
        for simplices in (((0, 3),), ((0, 1), (1, 3)), ((0, 1), (1, 2), (2, 3)), ((0, 2), (2, 3))):
            self.judges(lambda value: is_parting(line, value), ("parted", simplices))
        for simplices in (((0, 2),), ((0, 2), (1, 3)), ((0, 1), (2, 3)), ((0, 1), (0, 2), (0, 3)), ((0, 3), (1, 2))):
            self.told(False, is_parting(line, ("parted", simplices)))

    def test_one_simplex_in_another_one(self):
        lot = ((0, 0), (0, 9), (1, 1), (1, 2), (2, 1), (9, 0))
        self.told(True, is_parting(lot, ("parted", ((0, 1, 5),))))
        self.told(False, is_parting(lot, ("parted", ((0, 1, 5), (2, 3, 4)))))

    def test_unlike_facets_of_one_side(self):
        # Over a corner on a side of the square, the long side meets two short ones: no parting facet by facet.
        lot = ((0, 0), (0, 2), (1, 0), (2, 0), (2, 2))
        self.told(True, is_parting(lot, ("parted", ((0, 1, 3), (1, 3, 4)))))
        self.told(True, is_parting(lot, ("parted", ((0, 1, 2), (1, 2, 4), (2, 3, 4)))))
        inner = ((0, 0), (0, 2), (1, 1), (2, 0), (2, 2))
        self.told(False, is_parting(inner, ("parted", ((0, 1, 2), (0, 2, 3), (1, 3, 4)))))

    def test_vols_that_add_up_are_not_enough(self):
        lot = ((0,), (1,), (2,), (3,))
        self.told(False, is_parting(lot, ("parted", ((0, 1), (0, 2)))))
        self.told(False, is_parting(SQUARE, ("parted", ((0, 1, 2), (0, 1, 3)))))

    def test_cube(self):
        five = ("parted", tuple(sorted(
            tuple(sorted(CUBE.index(p) for p in points)) for points in (
                ((0, 0, 0), (0, 1, 1), (1, 0, 1), (1, 1, 0)), ((0, 0, 1), (0, 0, 0), (0, 1, 1), (1, 0, 1)),
                ((0, 1, 0), (0, 0, 0), (0, 1, 1), (1, 1, 0)), ((1, 0, 0), (0, 0, 0), (1, 0, 1), (1, 1, 0)),
                ((1, 1, 1), (0, 1, 1), (1, 0, 1), (1, 1, 0))))))
        self.judges(lambda value: is_parting(CUBE, value), five)
        self.refuses_all(lambda value: is_parting(CUBE, value), changed(five))
        for at in range(5):
            self.told(False, is_parting(CUBE, ("parted", five[1][:at] + five[1][at + 1:])))

    def test_flat(self):
        for row in ((1, -1), (-3, 3), (10 ** 80, -10 ** 80)):
            self.judges(lambda value: is_parting(STICK, value), ("flat", row))
            self.refuses_all(lambda value: is_parting(STICK, value), changed(("flat", row)))
        for row in ((0, 0), (1, 1), (1, 0)):
            self.told(False, is_parting(STICK, ("flat", row)))
        self.told(False, is_parting(STICK, ("parted", ((0, 1),))))
        self.told(False, is_parting(((0, 0), (1, 1), (2, 2)), ("parted", ((0, 1, 2),))))
        self.told(True, is_parting(((5,),), ("flat", (-7,))))

    def test_without_bound(self):
        lot = moments(400, 2)
        fan = ("parted", tuple((0, k, k + 1) for k in range(1, 399)))
        self.told(True, is_parting(lot, fan))
        self.told(False, is_parting(lot, ("parted", fan[1][1:])))
        self.told(False, is_parting(lot, ("parted", fan[1] + ((1, 2, 3),))))
        self.told(True, is_parting(tuple((k,) for k in range(400)), ("parted", tuple((k, k + 1) for k in range(399)))))
        rows = tuple(random_row(self.source, 4, SIXTY) for _ in range(60))
        lot = lot_of(rows)
        self.told(True, is_parting(lot, parting(lot)))


class OwnVolumes(Case):

    def test_simplices_by_divisors(self):
        for _ in range(80):
            length = self.source.randint(1, 4)
            many = self.source.randint(1, length + 1)
            points = [random_row(self.source, length, self.source.choice((2, 9, SIXTY))) for _ in range(many)]
            leads = [minus(point, points[0]) for point in points[1:]]
            if span(leads) < len(leads) or len(set(points)) < many:
                continue
            common = 0
            for columns in combinations(range(length), len(leads)):
                common = gcd(common, det([[lead[k] for k in columns] for lead in leads]))
            self.told((len(leads), common if leads else 1), own_volume(lot_of(points)))

    def test_full_ones_are_volumes(self):
        for _ in range(40):
            lot = random_lot(self.source, 9, self.source.randint(1, 4), 3)
            dimension, total = own_volume(lot)
            self.told(span([minus(p, lot[0]) for p in lot]), dimension)
            if dimension == len(lot[0]):
                self.told(volume(lot), total)
            else:
                self.assertGreater(total, 0)

    def test_put_into_a_greater_space(self):
        for _ in range(40):
            length = self.source.randint(1, 3)
            lot = random_lot(self.source, 8, length, 3)
            # Rows of an unimodular table keep the whole rows of the plane.
            wider = self.source.randint(length, 4)
            table = [[int(k == at) for k in range(wider)] for at in range(wider)]
            for _ in range(6):
                one, other = self.source.sample(range(wider), 2) if wider > 1 else (0, 0)
                if one != other:
                    table[one] = list(plus(table[one], scale(table[other], self.source.randint(-2, 2))))
            inner = lot_of(plus(mix(p, [tuple(row) for row in table[:length]]), (5, -3, 2, 1)[:wider]) for p in lot)
            self.told(own_volume(lot), own_volume(inner))

    def test_known(self):
        self.told((0, 1), own_volume(((7, 7, 7, 7),)))
        self.told((1, 6), own_volume(((0, 0, 0), (6, 12, -18))))
        self.told((2, 2), own_volume(((1, 1, 0), (1, 1, 1), (2, 2, 0), (2, 2, 1))))
        self.told((1, 3), own_volume(((0, 0), (1, 0), (3, 0))))
        self.told((3, 6), own_volume(CUBE))


class Bounds(Case):

    def test_most_corners(self):
        for length in (2, 3, 4):
            lot = moments(60, length, -30)
            paper = parting(lot)
            self.told(True, is_parting(lot, paper))
            total = sum(size([lot[k] for k in simplex]) for simplex in paper[1])
            self.told(total, volume(lot))
            self.told((length, total), own_volume(lot))
            for call in (volume, parting, own_volume):
                self.fails(TooMany, call, moments(61, length, -30), limit=60)
        # Simplices of the curve by its own law.
        self.told(sum((b - a) * (c - a) * (c - b) for a, b, c in [(0, k, k + 1) for k in range(1, 59)]),
                  volume(moments(60, 2)))

    def test_only_corners_count(self):
        lot = tuple((k,) for k in range(400))
        self.told(399, volume(lot))
        self.told(("parted", ((0, 399),)), parting(lot))
        lot = tuple(product(range(7), repeat=3))
        self.told(6 * 216, volume(lot))
        self.told(True, is_parting(lot, parting(lot)))

    def test_longest_members(self):
        lot = lot_of(random_row(self.source, 4, SIXTY) for _ in range(30))
        paper = parting(lot)
        self.told(True, is_parting(lot, paper))
        self.told(sum(size([lot[k] for k in simplex]) for simplex in paper[1]), volume(lot))


class Errors(Case):

    def test_lots(self):
        for call in (volume, parting, own_volume, lambda lot: is_parting(lot, ("flat", (1,)))):
            for lot in BAD_LOTS:
                self.fails(InvalidLot, call, lot)

    def test_lengths(self):
        for call in (volume, parting, own_volume, lambda lot: is_parting(lot, ("flat", (1, 0, 0, 0, 0)))):
            for lot in (((0,) * 5,), ((0,) * 8, (1,) * 8), moments(400, 5)):
                self.fails(InvalidOperation, call, lot)

    def test_judge_lets_each_value(self):
        for paper in ODD_VALUES:
            for lot in (SQUARE, STICK, TRIANGLE, ((0,), (2,)), moments(100, 2)):
                self.told(False, is_parting(lot, paper))


class Binomials(Case):

    def test_volumes_of_sums_of_multiples(self):
        # vol of c times A and d times B is a polynomial: told at a few numbers it is told at all.
        one, other = ((0, 0), (0, 1), (1, 0)), ((0, 0), (1, 2), (3, 1))
        mixed = volume(summed(one, other)) - volume(one) - volume(other)
        for c, d in product(range(4), repeat=2):
            total = volume(summed(scaled(one, c), scaled(other, d)))
            self.told(c * c * volume(one) + c * d * mixed + d * d * volume(other), total)
        self.told(0, mixed % comb(2, 1))
