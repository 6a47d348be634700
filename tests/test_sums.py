"""Stage 3: sums, joins, faces, shadows, edges."""

from itertools import combinations, product

from tests.helpers import (
    ODD_VALUES, SIXTY, Case, changed, dot, longest, lot_of, mix, moments, plus, random_lot, random_row, scale, value)
from tests.test_corners import BAD_LOTS, BAD_NUMBERS, BAD_ROWS, CUBE, FIELD

from rampworks.errors import InvalidLot, InvalidNumber, InvalidOperation, InvalidRow, TooMany
from rampworks.hull import sums as told
from rampworks.hull.corners import corner_or_weights, corners
from rampworks.hull.sums import (
    edge_or_crossed, edges, face, is_edge_or_crossed, joined, moved, scaled, shadow, summed, turned)

TRIANGLE, SQUARE, STICK = ((0, 0), (0, 1), (1, 0)), ((0, 0), (0, 1), (1, 0), (1, 1)), ((0, 0), (1, 1))
CROSS = lot_of(row for row in product((-1, 0, 1), repeat=3) if sum(map(abs, row)) == 1)


def all_sums(one, other):
    return lot_of(plus(left, right) for left in one for right in other)


class Pairs(Case):

    def two_lots(self, many=7):
        length = self.source.randint(1, 5)
        size = self.source.choice((1, 2, 9, SIXTY))
        return [random_lot(self.source, self.source.randint(1, many), length, size) for _ in range(2)]

    def test_sums_are_corners_of_all_sums(self):
        for _ in range(120):
            one, other = self.two_lots()
            total = all_sums(one, other)
            found = summed(one, other)
            if max(abs(x) for point in total for x in point) <= SIXTY:
                self.told(corners(total), found)
            for _ in range(5):
                row = random_row(self.source, len(one[0]), 5)
                self.told(value(one, row) + value(other, row), value(found, row))
            self.told(found, summed(other, one))

    def test_each_corner_of_a_sum_is_one_in_one_way(self):
        for _ in range(20):
            one, other = self.two_lots()
            for point in summed(one, other):
                ways = [(left, right) for left in one for right in other if plus(left, right) == point]
                self.told(1, len(ways))
                self.assertIn(ways[0][0], corners(one))
                self.assertIn(ways[0][1], corners(other))

    def test_joins(self):
        for _ in range(80):
            one, other = self.two_lots()
            found = joined(one, other)
            self.told(corners(lot_of(one + other)), found)
            for _ in range(5):
                row = random_row(self.source, len(one[0]), 5)
                self.told(max(value(one, row), value(other, row)), value(found, row))

    def test_sums_of_like_lots(self):
        for lot in (TRIANGLE, FIELD, CUBE, CROSS, moments(12, 4), moments(9, 8)):
            self.told(scaled(lot, 2), summed(lot, lot))
            self.told(scaled(lot, 5), summed(scaled(lot, 2), scaled(lot, 3)))
            self.told(moved(lot, lot[-1]), summed(lot, lot[-1:]))
            self.told(moved(lot, lot[-1]), summed(lot[-1:], lot))
            self.told(corners(lot), joined(lot, lot[:1]))

    def test_sums_of_sticks(self):
        cube = ((0,) * 5,)
        for at in range(5):
            cube = summed(cube, ((0,) * 5, tuple(int(k == at) for k in range(5))))
        self.told(tuple(product((0, 1), repeat=5)), cube)
        hexagon = summed(summed(((0, 0), (0, 1)), ((0, 0), (1, 0))), STICK)
        self.told(((0, 0), (0, 1), (1, 0), (1, 2), (2, 1), (2, 2)), hexagon)

    def test_taken_off(self):
        for _ in range(30):
            one, other = self.two_lots(4)
            third = random_lot(self.source, 4, len(one[0]), 3)
            self.told(corners(one) == corners(other), summed(one, third) == summed(other, third))

    def test_what_is_not_true(self):
        self.assertGreater(len(summed(CUBE, CROSS)), len(CUBE) + len(CROSS))
        # A point of a shadow that is one of a corner need be no corner.
        self.told(((0,), (2,)), shadow(TRIANGLE + ((1, 1),), ((1, 1),)))


class Alone(Case):

    def test_times_moved_turned(self):
        for _ in range(60):
            length = self.source.randint(1, 8)
            lot = random_lot(self.source, self.source.randint(1, 9), length, self.source.choice((1, 5, SIXTY)))
            tips = corners(lot)
            for number in (0, 1, 2, SIXTY):
                self.told(lot_of(scale(point, number) for point in tips), scaled(lot, number))
            row = random_row(self.source, length, self.source.choice((1, 5, SIXTY)))
            self.told(lot_of(plus(point, row) for point in tips), moved(lot, row))
            self.told(lot_of(scale(point, -1) for point in tips), turned(lot))
            self.told(value(lot, scale(row, -1)), value(turned(lot), row))

    def test_faces(self):
        for _ in range(80):
            length = self.source.randint(1, 4)
            lot = random_lot(self.source, self.source.randint(1, 12), length, self.source.choice((1, 2)))
            row = random_row(self.source, length, 1)
            expected = tuple(point for point in corners(lot) if dot(point, row) == value(lot, row))
            self.told(expected, face(lot, row))
            self.told(corners(lot), face(lot, (0,) * length))

    def test_faces_of_sums_and_joins(self):
        for _ in range(60):
            length = self.source.randint(1, 4)
            one, other = (random_lot(self.source, self.source.randint(1, 7), length, 2) for _ in range(2))
            row = random_row(self.source, length, 1)
            self.told(face(summed(one, other), row), summed(face(one, row), face(other, row)))
            left, right = value(one, row), value(other, row)
            expected = face(one, row) if left > right else face(other, row) if left < right else joined(
                face(one, row), face(other, row))
            self.told(expected, face(joined(one, other), row))

    def test_shadows(self):
        for _ in range(80):
            length, many = self.source.randint(1, 8), self.source.randint(1, 8)
            lot = random_lot(self.source, self.source.randint(1, 10), length, self.source.choice((2, 30, SIXTY)))
            rows = tuple(random_row(self.source, length, self.source.choice((1, 9))) for _ in range(many))
            points = lot_of(tuple(dot(row, point) for row in rows) for point in lot)
            found = shadow(lot, rows)
            self.assertTrue(set(found) <= set(points))
            if longest(points) <= 60:
                self.told(corners(points), found)
            y = random_row(self.source, many, 4)
            self.told(value(lot, mix(y, rows)), value(found, y))

    def test_shadows_of_sums_joins_shadows(self):
        for _ in range(40):
            length = self.source.randint(1, 4)
            one, other = (random_lot(self.source, self.source.randint(1, 6), length, 3) for _ in range(2))
            rows = tuple(random_row(self.source, length, 2) for _ in range(self.source.randint(1, 4)))
            self.told(shadow(summed(one, other), rows), summed(shadow(one, rows), shadow(other, rows)))
            self.told(shadow(joined(one, other), rows), joined(shadow(one, rows), shadow(other, rows)))
            further = tuple(random_row(self.source, len(rows), 2) for _ in range(self.source.randint(1, 3)))
            both = tuple(mix(row, rows) for row in further)
            self.told(shadow(one, both), shadow(shadow(one, rows), further))

    def test_constants(self):
        self.told(2000, told.MOST_PAIRS)
        self.told(60, told.MOST_ENDS)


class Edges(Case):

    def check(self, lot, one, other):
        tips = corners(lot)
        paper = edge_or_crossed(lot, one, other)
        self.told(True, is_edge_or_crossed(lot, one, other, paper))
        if paper[0] == "edge":
            told_there = [dot(paper[1], tip) for tip in tips]
            self.assertEqual([at for at, x in enumerate(told_there) if x == max(told_there)], sorted((one, other)))
        else:
            _, number, weights = paper
            self.assertGreaterEqual(number, 1)
            self.assertGreaterEqual(min(weights), 0)
            self.assertGreater(sum(weights) - weights[one] - weights[other], 0)
            self.told(2 * number, sum(weights))
            self.told(scale(plus(tips[one], tips[other]), number), mix(weights, tips))
        return paper[0]

    def test_right_by_sums(self):
        found = []
        for _ in range(60):
            length = self.source.randint(1, 6)
            lot = random_lot(self.source, self.source.randint(2, 12), length, self.source.choice((1, 2, 20, SIXTY)))
            tips = corners(lot)
            words = {}
            for one, other in product(range(len(tips)), repeat=2):
                if one != other:
                    words[one, other] = self.check(lot, one, other)
            found.extend(words.values())
            self.told(tuple(sorted(pair for pair in words if pair[0] < pair[1] and words[pair] == "edge")), edges(lot))
            self.assertTrue(all(words[one, other] == words[other, one] for one, other in words))
        self.assertGreater(min(found.count("edge"), found.count("crossed")), 100)

    def test_known(self):
        self.told((), edges(((1, 2),)))
        self.told(((0, 1),), edges(((0,), (3,), (7,))))
        self.told(((0, 1), (0, 2), (1, 3), (2, 3)), edges(FIELD))
        self.told(12, len(edges(CUBE)))
        self.told(tuple((one, other) for one, other in combinations(range(8), 2)
                        if sum(abs(x - y) for x, y in zip(CUBE[one], CUBE[other])) == 1), edges(CUBE))
        self.told(12, len(edges(CROSS)))
        self.told(tuple(combinations(range(8), 2)), edges(moments(8, 4)))
        self.told(6, len(edges(((0, 0, 0), (0, 0, 1), (0, 1, 0), (1, 0, 0)))))

    def test_middle_in_no_other_line_but_no_edge(self):
        # A way over the top of a double pyramid through the inside of its middle triangle.
        lot = lot_of([(0, 0, -3), (0, 0, 3), (5, 0, 0), (-2, 4, 0), (-3, -5, 0)])
        tips = corners(lot)
        one, other = tips.index((0, 0, -3)), tips.index((0, 0, 3))
        self.told("crossed", self.check(lot, one, other))
        self.told(9, len(edges(lot)))

    def test_edges_lead_everywhere(self):
        for _ in range(20):
            lot = random_lot(self.source, 12, 3, 4)
            reached, pairs = {0}, edges(lot)
            for _ in corners(lot):
                reached |= {other for pair in pairs for one, other in (pair, pair[::-1]) if one in reached}
            self.assertEqual(reached, set(range(len(corners(lot)))))

    def test_judge_of_edges(self):
        for form in ((-1, 0), (-7, 0), (-10 ** 70, 0)):
            self.judges(lambda value: is_edge_or_crossed(FIELD, 0, 1, value), ("edge", form))
            self.judges(lambda value: is_edge_or_crossed(FIELD, 1, 0, value), ("edge", form))
            self.refuses_all(
                lambda value: is_edge_or_crossed(FIELD, 0, 1, value),
                [paper for paper in changed(("edge", form)) if paper[1][1] != 0 or paper[1][0] >= 0])
        for form in product(range(-2, 3), repeat=2):
            self.told(form[1] == 0 and form[0] < 0, is_edge_or_crossed(FIELD, 0, 1, ("edge", form)))
            self.told(False, is_edge_or_crossed(FIELD, 0, 3, ("edge", form)))
        self.told(True, is_edge_or_crossed(((0,), (5,)), 0, 1, ("edge", (0,))))
        self.told(False, is_edge_or_crossed(((0,), (5,)), 0, 1, ("edge", (1,))))

    def test_judge_of_crossings(self):
        for number, weights in ((1, (0, 1, 1, 0)), (3, (0, 3, 3, 0)), (3, (1, 2, 2, 1)),
                                (10 ** 70, (10 ** 70 - 1, 1, 1, 10 ** 70 - 1))):
            paper = ("crossed", number, weights)
            self.judges(lambda value: is_edge_or_crossed(FIELD, 0, 3, value), paper)
            self.refuses_all(lambda value: is_edge_or_crossed(FIELD, 0, 3, value), changed(paper))
        for paper in (
                ("crossed", 1, (1, 0, 0, 1)), ("crossed", 0, (0,) * 4), ("crossed", -1, (0, -1, -1, 0)),
                ("crossed", 1, (2, -1, -1, 2)), ("crossed", 2, (0, 1, 1, 0)), ("crossed", 1, (0, 1, 1, 0, 0))):
            self.told(False, is_edge_or_crossed(FIELD, 0, 3, paper))
        self.told(False, is_edge_or_crossed(FIELD, 0, 1, ("crossed", 1, (1, 1, 0, 0))))

    def test_fifty_digits(self):
        lot = corners(random_lot(self.source, 25, 8, 99999))
        box = lot_of(tuple(self.source.choice((-99999, 99999)) for _ in range(8)) for _ in range(40))
        for kept in (lot, box):
            for one, other in list(combinations(range(len(kept)), 2))[::9]:
                self.assertLessEqual(longest(edge_or_crossed(kept, one, other)), 50)
                self.check(kept, one, other)


class Bounds(Case):

    def test_most_pairs(self):
        one, other = moments(40, 2), moments(50, 2, 7)
        self.told(2000, len(one) * len(other))
        self.assertGreater(len(summed(one, other)), 50)
        self.fails(TooMany, summed, moments(41, 2), other, limit=2000)
        self.fails(TooMany, summed, moments(3, 2), moments(400, 2), limit=400)
        self.fails(TooMany, summed, moments(6, 2), moments(400, 2), limit=2000)
        # Only corners count.
        self.told(((0,), (798,)), summed(tuple((k,) for k in range(400)), tuple((k,) for k in range(400))))

    def test_many_pairs_of_long_points(self):
        one, other = (random_lot(self.source, many, 8, SIXTY) for many in (44, 45))
        self.fails(TooMany, summed, one, other, limit=400)
        found = summed(one, other[:5])
        self.told(False, found == ())
        row = random_row(self.source, 8, 9)
        self.told(value(one, row) + value(other[:5], row), value(found, row))

    def test_most_corners_of_sums(self):
        one = tuple(point + (0, 0, 0) for point in moments(20, 3))
        other = tuple((0, 0, 0) + point for point in moments(20, 3))
        self.told(all_sums(one, other), summed(one, other))
        more = tuple((0, 0, 0) + point for point in moments(21, 3))
        self.fails(TooMany, summed, one, more, limit=400)

    def test_most_corners_of_joins(self):
        one = moments(400, 2)
        self.told(one, joined(one[:200], one[200:]))
        self.told(one, joined(one, one))
        self.fails(TooMany, joined, one, moments(401, 2)[-1:], limit=400)
        self.fails(TooMany, joined, moments(400, 3), moments(400, 3, 400), limit=400)
        self.told(((0,), (799,)), joined(tuple((k,) for k in range(400)), tuple((k,) for k in range(400, 800))))

    def test_most_points(self):
        lot = random_lot(self.source, 400, 8, SIXTY)
        rows = tuple(random_row(self.source, 8, SIXTY) for _ in range(8))
        found = shadow(lot, rows[:2])
        self.told(value(lot, mix((3, -5), rows[:2])), value(found, (3, -5)))
        self.assertGreater(len(shadow(lot, rows)), 300)
        self.told(1, len(face(lot, rows[0])))
        self.told(len(corners(lot)), len(turned(lot)))

    def test_most_ends(self):
        self.told(60, len(edges(moments(60, 2))))
        self.fails(TooMany, edges, moments(61, 2), limit=60)
        self.fails(TooMany, edges, moments(61, 8), limit=60)
        self.told(((0, 1),), edges(tuple((k,) for k in range(400))))
        self.told(tuple(combinations(range(60), 2)), edges(moments(60, 4, -30)))
        lot = moments(400, 2)
        self.told("edge", edge_or_crossed(lot, 0, 399)[0])
        self.told("crossed", edge_or_crossed(lot, 0, 200)[0])


class Errors(Case):

    def test_lots(self):
        calls = (
            lambda lot: summed(lot, 5), lambda lot: joined(lot, 5), lambda lot: summed(FIELD, lot),
            lambda lot: joined(FIELD, lot), lambda lot: scaled(lot, -1), lambda lot: moved(lot, None), turned,
            lambda lot: face(lot, None), lambda lot: shadow(lot, None), lambda lot: edge_or_crossed(lot, -1, -1),
            lambda lot: is_edge_or_crossed(lot, 5, None, ("edge", (1,))), edges)
        for call in calls:
            for lot in BAD_LOTS:
                self.fails(InvalidLot, call, lot)

    def test_unlike_lengths(self):
        for call in (summed, joined):
            self.fails(InvalidOperation, call, FIELD, ((0,),))
            self.fails(InvalidOperation, call, CUBE, FIELD)
            # Behind it come the bounds.
            self.fails(InvalidOperation, call, moments(400, 2), moments(400, 3))

    def test_numbers(self):
        for number in BAD_NUMBERS + (-SIXTY,):
            self.fails(InvalidNumber, scaled, FIELD, number, given=number)

    def test_rows(self):
        for call in (moved, face):
            for row in BAD_ROWS:
                self.fails(InvalidRow, call, FIELD, row)
            for row in ((1,), (1, 2, 3)):
                self.fails(InvalidOperation, call, FIELD, row)

    def test_rows_of_shadows(self):
        for rows in BAD_ROWS + ODD_VALUES + (
                ((1, 2),) * 9, ((1, 2), (1,)), ((1, 2), (1, 2, 3)), [(1, 2)], ((1, True),), ((1, SIXTY + 1),)):
            self.fails(InvalidOperation, shadow, FIELD, rows)
        self.told(((0,) * 8, (2,) * 8), shadow(FIELD, ((1, 0),) * 8))

    def test_ends(self):
        judge = lambda lot, one, other: is_edge_or_crossed(lot, one, other, ("edge", (1, 1)))
        for call in (edge_or_crossed, judge):
            # FIELD has five points, but four corners.
            for index in BAD_NUMBERS + (4, 5):
                self.fails(InvalidNumber, call, FIELD, index, 0, given=index)
                self.fails(InvalidNumber, call, FIELD, 0, index, given=index)
                self.fails(InvalidNumber, call, FIELD, index, 99, given=index)
            self.fails(InvalidOperation, call, FIELD, 2, 2)
            self.fails(InvalidOperation, call, ((0,),), 0, 0)

    def test_judge_lets_each_value(self):
        for paper in ODD_VALUES:
            self.told(False, is_edge_or_crossed(FIELD, 0, 1, paper))
            self.told(False, is_edge_or_crossed(FIELD, 0, 3, paper))


class Same(Case):

    def test_equal_calls(self):
        one, other = (random_lot(self.source, 9, 3, 5) for _ in range(2))
        kept = tuple(tuple(row) for row in one)
        for call in (lambda x: summed(x, other), lambda x: joined(x, other), turned, edges, lambda x: scaled(x, 3),
                     lambda x: edge_or_crossed(x, 0, 1), lambda x: corner_or_weights(x, 0)):
            self.told(call(one), call(kept))
        self.told(kept, one)
