"""Stage 2: corners."""

from itertools import combinations, product

from tests.helpers import (
    ODD_VALUES, SIXTY, Case, changed, dot, longest, lot_of, minus, mix, moments, random_lot, random_row, scale, value)

from rampworks.errors import InvalidLot, InvalidNumber, InvalidOperation, InvalidRow
from rampworks.hull import corners as told
from rampworks.hull.corners import (
    alike_or_row, corner_or_weights, corners, greatest_at, inside_or_beyond, is_alike_or_row, is_corner_or_weights,
    is_inside_or_beyond, is_lot, value_at)

FIELD = ((0, 0), (0, 2), (1, 1), (2, 0), (2, 2))
CUBE = tuple(product((0, 1), repeat=3))
BAD_LOTS = (
    (), [(1,)], None, True, 5, "lot", {1: 2}, (1, 2), ((),), ([1],), ((1,), (1, 2)), ((1, 2), (2,)), ((True,),),
    ((1,), None), ((SIXTY + 1,),), ((-SIXTY - 1,), (0,)), ((0,) * 9,), ((2,), (1,)), ((1,), (1,)),
    ((0, 1), (0, 0)), tuple((k,) for k in range(401)))
BAD_ROWS = (
    (), [1], None, True, 5, "row", {1: 2}, (True,), (1, None), ("1",), ((1,),), (SIXTY + 1,), (-SIXTY - 1,), (0,) * 9)
BAD_NUMBERS = (None, True, False, "1", (1,), [0], -1, 10 ** 60, 10 ** 99)


def in_plane_corners(points):
    """The corners of points of two members: those that are in no triangle and on no way between others."""
    def turn(a, b, c):
        return (b[0] - a[0]) * (c[1] - a[1]) - (b[1] - a[1]) * (c[0] - a[0])

    def is_in(point, others):
        if any(turn(a, b, point) == 0 and min(a, b) < point < max(a, b) for a, b in combinations(others, 2)):
            return True
        for a, b, c in combinations(others, 3):
            sides = [turn(a, b, point), turn(b, c, point), turn(c, a, point)]
            if turn(a, b, c) != 0 and (min(sides) >= 0 or max(sides) <= 0):
                return True
        return False
    return tuple(point for point in points if not is_in(point, [other for other in points if other != point]))


class Lots(Case):

    def test_which_values_are_lots(self):
        for lot in (
                ((0,),), ((0,) * 8,), ((-1,), (0,)), FIELD, ((-SIXTY,), (SIXTY,)), tuple((k,) for k in range(400)),
                ((0, 5), (1, -9), (1, 0))):
            self.told(True, is_lot(lot))
        for lot in BAD_LOTS + ODD_VALUES:
            self.told(False, is_lot(lot))

    def test_constant(self):
        self.told(400, told.MOST_POINTS)

    def test_values(self):
        for _ in range(60):
            length = self.source.randint(1, 8)
            lot = random_lot(self.source, self.source.randint(1, 12), length, self.source.choice((2, 50, SIXTY)))
            row = random_row(self.source, length, self.source.choice((1, 9, SIXTY)))
            numbers = [dot(point, row) for point in lot]
            self.told(max(numbers), value_at(lot, row))
            self.told(tuple(p for p, x in zip(lot, numbers) if x == max(numbers)), greatest_at(lot, row))

    def test_values_at_zeros(self):
        self.told(0, value_at(FIELD, (0, 0)))
        self.told(FIELD, greatest_at(FIELD, (0, 0)))


class Corners(Case):

    def check_paper(self, lot, index, paper):
        """Whether the paper is right, by sums."""
        self.told(True, is_corner_or_weights(lot, index, paper))
        if paper[0] == "corner":
            at = dot(paper[1], lot[index])
            self.assertTrue(all(dot(paper[1], point) < at for k, point in enumerate(lot) if k != index))
        else:
            _, number, weights = paper
            self.assertGreaterEqual(number, 1)
            self.assertGreaterEqual(min(weights), 0)
            self.told((0, number), (weights[index], sum(weights)))
            self.told(scale(lot[index], number), mix(weights, lot))

    def check_all(self, lot):
        papers = [corner_or_weights(lot, index) for index in range(len(lot))]
        for index, paper in enumerate(papers):
            self.check_paper(lot, index, paper)
        self.told(corners(lot), tuple(point for point, paper in zip(lot, papers) if paper[0] == "corner"))

    def test_random_lots(self):
        for length in range(1, 9):
            for size in (1, 2, 5, 99999, SIXTY):
                self.check_all(random_lot(self.source, self.source.randint(1, 30), length, size))

    def test_flat_lots(self):
        for length in range(2, 9):
            heads = [random_row(self.source, length, 9) for _ in range(2)]
            self.check_all(lot_of(mix(random_row(self.source, 2, 3), heads) for _ in range(20)))
            self.check_all(lot_of(scale(heads[0], k) for k in range(-5, 6)))

    def test_plane_by_triangles(self):
        for size in (1, 2, 3, 8):
            for many in (1, 2, 3, 4, 9, 16):
                lot = random_lot(self.source, many, 2, size)
                self.told(in_plane_corners(lot), corners(lot))

    def test_known(self):
        self.told(((5,),), corners(((5,),)))
        self.told(((-3,), (9,)), corners(((-3,), (0,), (2,), (9,))))
        self.told(CUBE, corners(CUBE))
        self.told(tuple(product((0, 2), repeat=3)), corners(tuple(product((0, 1, 2), repeat=3))))
        self.told(((0, 0, 0), (3, 3, 3)), corners(((0, 0, 0), (1, 1, 1), (2, 2, 2), (3, 3, 3))))
        self.told(FIELD[:2] + FIELD[3:], corners(FIELD))
        self.told(((-1, 0, 0), (0, -1, 0), (0, 0, -1), (0, 0, 1), (0, 1, 0), (1, 0, 0)), corners(lot_of(
            row for row in product((-1, 0, 1), repeat=3) if sum(map(abs, row)) < 2)))

    def test_one_point(self):
        for length in (1, 2, 8):
            lot = ((7,) * length,)
            self.told(lot, corners(lot))
            self.told("corner", corner_or_weights(lot, 0)[0])
            self.told(True, is_corner_or_weights(lot, 0, corner_or_weights(lot, 0)))
            self.told(True, is_corner_or_weights(lot, 0, ("corner", (0,) * length)))
            self.told(False, is_corner_or_weights(lot, 0, ("corner", (0,) * (length + 1))))
            self.told(False, is_corner_or_weights(lot, 0, ("weights", 1, (1,))))

    def test_corners_keep_hull_and_values(self):
        for length in (1, 2, 3, 5):
            lot = random_lot(self.source, 30, length, 4)
            tips = corners(lot)
            self.told(tips, corners(tips))
            for _ in range(30):
                row = random_row(self.source, length, 9)
                self.told(value(lot, row), value_at(tips, row))
            for point in lot:
                self.told("inside", inside_or_beyond(tips, point)[0])

    def test_fifty_digits(self):
        for length in (2, 4, 8):
            lot = random_lot(self.source, 60, length, 99999)
            middle = random_row(self.source, length, 9999)
            for k in range(0, len(lot), 7):
                self.assertLessEqual(longest(corner_or_weights(lot, k)), 50)
            self.assertLessEqual(longest(inside_or_beyond(lot, middle)), 50)
        lot = lot_of(
            [tuple(self.source.choice((-99999, 99999)) for _ in range(8)) for _ in range(80)] + [(0, 1) * 4])
        self.assertLessEqual(longest(corner_or_weights(lot, lot.index((0, 1) * 4))), 50)

    def test_judge_of_forms(self):
        for form in ((-1, -1), (-1, -2), (-10 ** 80, -3)):
            self.judges(lambda paper: is_corner_or_weights(FIELD, 0, paper), ("corner", form))
        for form in ((-1, 0), (0, 0), (1, 1), (-1, 1), (0, -1)):
            self.told(False, is_corner_or_weights(FIELD, 0, ("corner", form)))
        self.refuses_all(
            lambda paper: is_corner_or_weights(((0, 0), (0, 1), (1, 0), (1, 1)), 0, paper),
            [("corner", form) for _, form in changed(("corner", (-1, -1))) if 0 in form])
        for form in product(range(-2, 3), repeat=2):
            self.told(max(form) < 0, is_corner_or_weights(FIELD, 0, ("corner", form)))
            self.told(False, is_corner_or_weights(FIELD, 2, ("corner", form)))

    def test_judge_of_weights(self):
        for number, weights in (
                (2, (1, 0, 0, 0, 1)), (4, (1, 1, 0, 1, 1)), (2 * 10 ** 80, (0, 10 ** 80, 0, 10 ** 80, 0)),
                (6, (3, 0, 0, 0, 3)), (6, (1, 2, 0, 2, 1))):
            paper = ("weights", number, weights)
            self.judges(lambda paper: is_corner_or_weights(FIELD, 2, paper), paper)
            self.refuses_all(lambda paper: is_corner_or_weights(FIELD, 2, paper), changed(paper))
        for paper in (
                ("weights", 1, (0, 0, 1, 0, 0)), ("weights", 3, (1, 0, 1, 0, 1)), ("weights", 0, (0,) * 5),
                ("weights", -2, (-1, 0, 0, 0, -1)), ("weights", 2, (2, -1, 0, -1, 2))):
            self.told(False, is_corner_or_weights(FIELD, 2, paper))


class Inside(Case):

    def check(self, lot, row):
        paper = inside_or_beyond(lot, row)
        self.told(True, is_inside_or_beyond(lot, row, paper))
        if paper[0] == "inside":
            _, number, weights = paper
            self.assertGreaterEqual(number, 1)
            self.assertGreaterEqual(min(weights), 0)
            self.told(number, sum(weights))
            self.told(scale(row, number), mix(weights, lot))
        else:
            self.assertGreater(dot(paper[1], row), value(lot, paper[1]))
        return paper[0]

    def test_right_by_sums(self):
        found = []
        for _ in range(250):
            length = self.source.randint(1, 8)
            size = self.source.choice((1, 3, 99999, SIXTY))
            lot = random_lot(self.source, self.source.randint(1, 20), length, size)
            found.append(self.check(lot, random_row(self.source, length, max(1, size // 3))))
        self.assertGreater(min(found.count("inside"), found.count("beyond")), 20)

    def test_points_and_middles(self):
        for length in (1, 2, 3, 8):
            lot = random_lot(self.source, 12, length, 20)
            for point in lot:
                self.told("inside", self.check(lot, point))
            twice = lot_of(scale(point, 2) for point in lot)
            for one, other in combinations(lot[:5], 2):
                self.told("inside", self.check(twice, tuple(x + y for x, y in zip(one, other))))

    def test_on_the_rim_and_just_beyond(self):
        for row, word in (((1, 0), "inside"), ((0, 1), "inside"), ((2, 1), "inside"), ((3, 1), "beyond"),
                          ((-1, 0), "beyond"), ((2, 3), "beyond"), ((1, 1), "inside")):
            self.told(word, self.check(FIELD, row))

    def test_judge(self):
        for paper in (("inside", 2, (0, 1, 0, 0, 1)), ("inside", 4, (0, 2, 0, 0, 2)),
                      ("inside", 4 * 10 ** 70, (0, 2 * 10 ** 70, 0, 0, 2 * 10 ** 70))):
            self.judges(lambda value: is_inside_or_beyond(FIELD, (1, 2), value), paper)
            self.refuses_all(lambda value: is_inside_or_beyond(FIELD, (1, 2), value), changed(paper))
        for form in ((1, 0), (2, 1), (10 ** 80, -10 ** 60)):
            self.judges(lambda value: is_inside_or_beyond(FIELD, (3, 1), value), ("beyond", form))
        for form in product(range(-2, 3), repeat=2):
            self.told(False, is_inside_or_beyond(FIELD, (2, 1), ("beyond", form)))
        self.refuses_all(lambda value: is_inside_or_beyond(((0,),), (1,), value), changed(("beyond", (1,)))[1:])
        self.told(True, is_inside_or_beyond(FIELD, (1, 1), ("inside", 1, (0, 0, 1, 0, 0))))
        self.told(True, is_inside_or_beyond(FIELD, (1, 1), ("inside", 2, (1, 0, 0, 0, 1))))


class Alike(Case):

    def check(self, one, other):
        paper = alike_or_row(one, other)
        self.told(corners(one) == corners(other), paper == ("alike",))
        self.told(True, is_alike_or_row(one, other, paper))
        if paper != ("alike",):
            self.assertNotEqual(value(one, paper[1]), value(other, paper[1]))
            self.told(len(one[0]), len(paper[1]))
        return paper[0]

    def test_right_by_sums(self):
        for _ in range(120):
            length = self.source.randint(1, 5)
            one = random_lot(self.source, self.source.randint(1, 9), length, 2)
            self.check(one, random_lot(self.source, self.source.randint(1, 9), length, 2))
            self.told("alike", self.check(one, corners(one)))

    def test_one_within_the_other(self):
        # A corner of the one lies on the rim of the other one.
        for one, other in (
                (FIELD, FIELD[:4]), (FIELD, ((0, 0), (0, 2), (1, 0))), (FIELD, ((1, 0), (1, 2))),
                (FIELD, ((1, 1),)), (CUBE, CUBE[:7]), (((0,), (2,)), ((0,), (1,)))):
            self.told("row", self.check(one, other))
            self.told("row", self.check(other, one))

    def test_judge(self):
        self.judges(lambda value: is_alike_or_row(FIELD, corners(FIELD), value), ("alike",))
        for row in product(range(-2, 3), repeat=2):
            self.told(False, is_alike_or_row(FIELD, corners(FIELD), ("row", row)))
            self.told(min(row) > 0 or row[0] + row[1] > 0 and min(row) >= 0 and 0 not in row,
                      is_alike_or_row(FIELD, FIELD[:4], ("row", row)))
        for row in ((1, 1), (10 ** 80, 1), (3, 2)):
            self.judges(lambda value: is_alike_or_row(FIELD, FIELD[:4], value), ("row", row))
        self.told(False, is_alike_or_row(FIELD, FIELD[:4], ("alike",)))


class Bounds(Case):

    def test_most_points_with_most_digits(self):
        lot = random_lot(self.source, 400, 8, SIXTY)
        self.told(400, len(lot))
        self.told(True, is_lot(lot))
        tips = corners(lot)
        self.assertGreater(len(tips), 300)
        within = [point for point in lot if point not in tips][:3]
        for point in within + list(tips[:3]):
            index = lot.index(point)
            paper = corner_or_weights(lot, index)
            self.told("corner" if point in tips else "weights", paper[0])
            self.told(True, is_corner_or_weights(lot, index, paper))
        self.told(("alike",), alike_or_row(lot, tips))
        self.told("row", alike_or_row(lot, lot[1:])[0])

    def test_many_points_that_are_no_corners(self):
        lot = tuple(product(range(8), range(7), range(7)))
        self.told(tuple(product((0, 7), (0, 6), (0, 6))), corners(lot))
        lot = lot_of((k, k * k % 7, -k, 3, k // 3, 0, 5, k % 2) for k in range(400))
        self.told(("alike",), alike_or_row(lot, corners(lot)))

    def test_curves(self):
        for length in (2, 3, 4, 8):
            lot = moments(400 if length < 8 else 60, length, -200 if length < 8 else -30)
            self.told(lot, corners(lot))


class Errors(Case):

    def test_lots(self):
        calls = (
            corners, lambda lot: value_at(lot, None), lambda lot: greatest_at(lot, (1, 2, 3)),
            lambda lot: corner_or_weights(lot, None), lambda lot: is_corner_or_weights(lot, None, 1),
            lambda lot: inside_or_beyond(lot, None), lambda lot: is_inside_or_beyond(lot, None, 1),
            lambda lot: alike_or_row(lot, None), lambda lot: is_alike_or_row(lot, 5, 1),
            lambda lot: alike_or_row(FIELD, lot), lambda lot: is_alike_or_row(FIELD, lot, ("alike",)))
        for call in calls:
            for lot in BAD_LOTS:
                self.fails(InvalidLot, call, lot)

    def test_rows(self):
        calls = (value_at, greatest_at, inside_or_beyond, lambda lot, row: is_inside_or_beyond(lot, row, 1))
        for call in calls:
            for row in BAD_ROWS:
                self.fails(InvalidRow, call, FIELD, row)
            for row in ((1,), (1, 2, 3), (0,) * 8):
                self.fails(InvalidOperation, call, FIELD, row)

    def test_indices(self):
        for call in (corner_or_weights, lambda lot, index: is_corner_or_weights(lot, index, ("corner", (1, 1)))):
            for index in BAD_NUMBERS + (5, 6):
                self.fails(InvalidNumber, call, FIELD, index, given=index)
            self.fails(InvalidNumber, call, ((0,),), 1, given=1)

    def test_unlike_lengths(self):
        for call in (alike_or_row, lambda one, other: is_alike_or_row(one, other, ("alike",))):
            self.fails(InvalidOperation, call, FIELD, ((0,),))
            self.fails(InvalidOperation, call, ((0,),), FIELD)

    def test_judges_let_each_value(self):
        for paper in ODD_VALUES:
            self.told(False, is_corner_or_weights(FIELD, 0, paper))
            self.told(False, is_inside_or_beyond(FIELD, (1, 2), paper))
            self.told(False, is_alike_or_row(FIELD, FIELD, paper))


class Same(Case):

    def test_equal_calls(self):
        lot = random_lot(self.source, 20, 3, 5)
        kept = tuple(tuple(row) for row in lot)
        for call in (corners, lambda x: corner_or_weights(x, 3), lambda x: inside_or_beyond(x, (1, 1, 1)),
                     lambda x: alike_or_row(x, x[:4])):
            self.told(call(lot), call(kept))
        self.told(kept, lot)
        self.told(minus(lot[0], kept[0]), (0, 0, 0))
