"""Stage 10: fans of the plane."""

from math import gcd

from tests.helpers import ODD_VALUES, SIXTY, Case, changed, dot, lot_of, plus, random_lot, random_row, same, spoilt
from tests.test_readings import BAD_READINGS, random_reading, tells

from rampworks.errors import InvalidOperation, InvalidReading, InvalidRow, TooMany
from rampworks.hull.corners import corners
from rampworks.hull.sums import moved, summed
from rampworks.net.readings import do_agree
from rampworks.plane import fans as told
from rampworks.plane.fans import (
    form_behind, is_ray, is_round, is_smooth, put_between, round_by_values, round_of, smooth_fan, value_of_round,
    values_on)

TRIANGLE, SQUARE = ((0, 0), (0, 1), (1, 0)), ((0, 0), (0, 1), (1, 0), (1, 1))
STICK, POINT = ((0, 0), (1, 1)), ((0, 0),)
AXES = ((1, 0), (0, 1), (-1, 0), (0, -1))
THREE = round_of((TRIANGLE, POINT))
BAD_ROWS = ODD_VALUES + ((1,), (1, 2, 3), [1, 2], (True, 0), (0, False), (SIXTY + 1, 0), (0, -SIXTY - 1), ("1", 2), ())
BAD_RAYS = BAD_ROWS + ((0, 0), (2, 0), (0, -3), (4, 6), (-5, -5), (SIXTY, SIXTY))
BAD_ROUNDS = ODD_VALUES + (
    (0, 0), ((0, 0),), ((0, 0), (), ()), [(0, 0), ()], ((0, 0), []), ((0,), ()), ((0, 0, 0), ()), ((True, 0), ()),
    ((0, 0), (((1, 0), 2), ((-1, 0), 1))), ((0, 0), (((1, 0), 1),)), ((0, 0), (((1, 0), 0), ((-1, 0), 0))),
    ((0, 0), (((-1, 0), 1), ((1, 0), 1))), ((0, 0), (((1, 0), 1), ((1, 0), -1))), ((0, 0), (((2, 0), 1), ((-2, 0), 1))),
    ((0, 0), (((1, 0), True), ((-1, 0), 1))), ((0, 0), ([(1, 0), 1], ((-1, 0), 1))),
    ((0, 0), (((1, 0),), ((-1, 0), 1))),
    ((0, 0), (((1, 0), 1, 1), ((-1, 0), 1, 1))), ((0, 0), (((1, 0), 1), ((0, 1), 1), ((-1, 0), 1))), ((0, 0), ((), ())),
    ((0, 0), (((1, 1), 1), ((1, 0), -1), ((0, 1), -1))))
BAD_FANS = ODD_VALUES + (
    AXES[:2], AXES[:3], AXES[1:] + AXES[:1], AXES[::-1], list(AXES), AXES + AXES[:1],
    ((1, 0), (0, 1), (-1, 0), (0, -2)),
    ((1, 0), (1, 2), (0, 1), (-1, 0), (0, -1)), ((1, 0), (0, 1), (-1, -2)), ((1, 0), (0, 1)),
    ((1, 0), (-1, 0), (0, -1)),
    ((1, 0), (0, 1), [-1, -1]), ((True, 0), (0, 1), (-1, -1)), ((1, 0), (0, 1), (-1, -1), (0, 0)),
    ((1, 0), (0, 1), (-1, 0), (0, -1), (1, 0), (0, 1), (-1, 0), (0, -1)))


def det(one, other):
    return one[0] * other[1] - one[1] * other[0]


def turn_of(row):
    """The place in turn by quarters, and within these by the slope, as a pair of integers to compare crosswise."""
    x, y = row
    if x > 0 and y >= 0:
        return 0, (x, y)
    if y > 0:
        return 1, (y, -x)
    if x < 0:
        return 2, (-x, -y)
    return 3, (-y, x)


def comes_ahead(one, other):
    (quarter, (x, y)), (beside, (u, v)) = turn_of(one), turn_of(other)
    return quarter < beside or quarter == beside and y * u < v * x


def random_ray(source, size):
    while True:
        ray = random_row(source, 2, size)
        if gcd(*ray) == 1:
            return ray


def random_rays(source, sizes, most):
    return tuple({random_ray(source, source.choice(sizes)) for _ in range(source.randint(0, most))})


def random_plane(source):
    return random_reading(source, 2, source.choice((1, 3, 7, 12)), source.choice((1, 2, 5, 1000)))


class Going(Case):

    def test_rays(self):
        for ray in ((1, 0), (0, -1), (-3, 5), (SIXTY, SIXTY - 1), (10 ** 99, 1)):
            self.told(True, is_ray(ray))
        for ray in BAD_RAYS:
            if ray not in ((SIXTY + 1, 0), (0, -SIXTY - 1)):
                self.told(False, is_ray(ray))

    def test_constants(self):
        self.told((64, 800), (told.MOST_RAYS, told.MOST_BENDS))


class Rounds(Case):

    def test_values_everywhere(self):
        for _ in range(80):
            reading = random_plane(self.source)
            found = round_of(reading)
            self.told(True, is_round(found))
            rows = [random_row(self.source, 2, 6) for _ in range(8)] + [ray for ray, _ in found[1]] + [(0, 0)]
            for row in rows:
                self.told(tells(reading, row), value_of_round(found, row))
                if row == (0, 0):
                    continue
                # Just behind the direction the form tells the values.
                form, far = form_behind(found, row), 10 ** 12
                behind = (far * row[0] - row[1], far * row[1] + row[0])
                self.told(dot(form, row), tells(reading, row))
                self.told(dot(form, behind), tells(reading, behind))

    def test_bends_by_forms(self):
        for _ in range(60):
            reading = random_plane(self.source)
            form, bends = round_of(reading)
            self.told(tells(reading, (10 ** 12, 1)), dot(form, (10 ** 12, 1)))
            now = form
            for at, (ray, c) in enumerate(bends):
                self.assertTrue(at == 0 or comes_ahead(bends[at - 1][0], ray))
                self.assertNotEqual(0, c)
                if ray != (1, 0):
                    now = plus(now, (-c * ray[1], c * ray[0]))
                self.told(now, form_behind((form, bends), ray))
            first = [c for ray, c in bends if ray == (1, 0)]
            self.told(form, plus(now, (0, sum(first))))

    def test_one_for_all_readings(self):
        for _ in range(50):
            one = random_plane(self.source)
            third = random_lot(self.source, 4, 2, 3)
            row = random_row(self.source, 2, 9)
            other = (moved(summed(one[0], third), row), moved(summed(one[1], third), row))
            self.told(round_of(one), round_of(other))
            self.told(round_of(one), round_of((corners(one[0]), corners(one[1]))))
            beside = (moved(one[0], (0, 1)), one[1])
            self.assertNotEqual(round_of(one), round_of(beside))
            two = random_plane(self.source)
            self.told(do_agree(one, two), round_of(one) == round_of(two))

    def test_known(self):
        self.told(((1, 0), (((1, 1), 1), ((-1, 0), 1), ((0, -1), 1))), THREE)
        self.told(((1, 1), (((-1, 1), 1), ((1, -1), 1))), round_of((STICK, POINT)))
        self.told(((0, 0), ()), round_of((POINT, POINT)))
        self.told(((3, -2), ()), round_of((((3, -2),), POINT)))
        self.told(((0, 0), ()), round_of((SQUARE, SQUARE)))
        # A bend at (1, 0) itself stands first, and its form is the one behind it.
        self.told(((0, 3), (((1, 0), 3), ((-1, 0), 3))), round_of((((0, 0), (0, 3)), POINT)))
        self.told(((0, -3), (((1, 0), -3), ((-1, 0), -3))), round_of((POINT, ((0, 0), (0, 3)))))
        self.told((0, 1), form_behind(THREE, (1, 1)))
        self.told((1, 0), form_behind(THREE, (0, -1)))
        self.told((0, 3), form_behind(((0, 3), (((1, 0), 3), ((-1, 0), 3))), (1, 0)))
        self.told((0, 3), form_behind(((0, 3), (((1, 0), 3), ((-1, 0), 3))), (7, 0)))
        self.told((0, 0), form_behind(((0, 3), (((1, 0), 3), ((-1, 0), 3))), (1000, -1)))

    def test_judge(self):
        self.judges(is_round, THREE)
        self.told(True, is_round(((5, -5), ())))
        for value in BAD_ROUNDS:
            self.told(False, is_round(value))
        # The form alone can be changed.
        self.refuses_all(is_round, [(THREE[0], bends) for bends in changed(THREE[1])])
        for form in ((0, 0), (10 ** 99, -10 ** 80)):
            self.told(True, is_round((form, THREE[1])))
        self.told(True, is_round(((0, 0), (((1, 0), 10 ** 99), ((-1, 0), 10 ** 99)))))

    def test_exactly_if_they_add_up_to_0(self):
        full = 0
        for _ in range(100):
            rays = sorted_rays({random_ray(self.source, 2) for _ in range(self.source.randint(1, 5))})
            bends = tuple((ray, self.source.choice((-2, -1, 1, 2))) for ray in rays)
            total = (sum(ray[0] * c for ray, c in bends), sum(ray[1] * c for ray, c in bends))
            self.told(total == (0, 0), is_round(((1, 2), bends)))
            if total != (0, 0):
                size = gcd(*total)
                ray = (-total[0] // size, -total[1] // size)
                if ray not in rays:
                    bends = tuple(sorted_pairs(bends + ((ray, size),)))
                    self.told(True, is_round(((1, 2), bends)))
            if is_round(((1, 2), bends)):
                full += 1
                self.told(((1, 2), bends), round_of(reading_by_hand((1, 2), bends)))
        self.assertGreater(full, 30)

    def test_most_bends(self):
        one, other = ring(7), ring(11)
        self.told((400, 400), (len(one), len(other)))
        self.told(400, len(round_of((one, POINT))[1]))
        wide = round_of((one, other))
        self.told(800, len(wide[1]))
        for row in ((3, -7), (-5, -1), (0, 2)):
            self.told(tells((one, other), row), value_of_round(wide, row))
        self.told(True, is_round(wide))
        more = (wide[0], tuple(sorted_pairs(wide[1] + (((1, 10 ** 9), 1), ((-1, -10 ** 9), 1)))))
        self.told(802, len(more[1]))
        self.told(True, is_round(more))
        for call in (lambda: value_of_round(more, (1, 2)), lambda: form_behind(more, (1, 2)),
                     lambda: values_on(more, AXES)):
            self.fails(InvalidOperation, call)

    def test_long(self):
        reading = (((-SIXTY, -SIXTY), (SIXTY, SIXTY - 1)), ((SIXTY, -SIXTY),))
        found = round_of(reading)
        self.told(True, is_round(found))
        self.told((SIXTY - SIXTY, SIXTY - 1 + SIXTY), found[0])
        self.fails(InvalidOperation, value_of_round, ((SIXTY + 1, 0), ()), (1, 1))
        self.fails(InvalidOperation, value_of_round, ((0, 0), (((1, 0), 10 ** 60), ((-1, 0), 10 ** 60))), (1, 1))
        self.told(SIXTY * SIXTY, value_of_round(((SIXTY, 0), ()), (SIXTY, 0)))


def sorted_rays(rays):
    found = []
    for ray in rays:
        at = 0
        while at < len(found) and comes_ahead(found[at], ray):
            at += 1
        found.insert(at, ray)
    return found


def sorted_pairs(pairs):
    known = dict(pairs)
    return [(ray, known[ray]) for ray in sorted_rays(list(known))]


def reading_by_hand(form, bends):
    """A reading of the function of a round: its bends above 0 as edges of P, those below 0 as edges of Q."""
    lots = []
    for sign in (1, -1):
        edges = [(ray[0] * c * sign, ray[1] * c * sign) for ray, c in bends if c * sign > 0]
        total = (sum(x for x, _ in edges), sum(y for _, y in edges))
        # Both are closed by one and the same edge.
        edges += [(-total[0], -total[1])] if total != (0, 0) else []
        points = [(0, 0)]
        for ray in sorted_loose(edges):
            points.append((points[-1][0] - ray[1], points[-1][1] + ray[0]))
        lots.append(lot_of(points))
    above, below = lots
    row = tuple(form[at] - max(above)[at] + max(below)[at] for at in (0, 1))
    return lot_of(plus(point, row) for point in above), below


def sorted_loose(rows):
    """Rows in turn, those of one direction one behind the other."""
    found = []
    for row in rows:
        at = 0
        while at < len(found) and not comes_ahead(row, found[at]):
            at += 1
        found.insert(at, row)
    return found


def ring(size):
    """A lot of 400 corners, the same seen from all four sides; for unlike sizes with unlike edges."""
    points, x, y = [], 0, 0
    steps = sorted([(100 * size, k * size + 1) for k in range(100)], key=lambda step: step[1])
    for quarter in range(4):
        for a, b in steps:
            for _ in range(quarter):
                a, b = -b, a
            x, y = x + a, y + b
            points.append((x, y))
    return lot_of(points)


class Fans(Case):

    def smooth_by_hand(self, fan):
        for one, other in zip(fan, fan[1:]):
            self.assertTrue(comes_ahead(one, other))
        for one, other in zip(fan, fan[1:] + fan[:1]):
            self.told(1, det(one, other))

    def test_put_between(self):
        for _ in range(150):
            size = self.source.choice((2, 6, 30))
            ray, other = random_ray(self.source, size), random_ray(self.source, size)
            if det(ray, other) <= 0:
                self.fails(InvalidOperation, put_between, ray, other)
                continue
            try:
                found = put_between(ray, other)
            except TooMany as error:
                self.told(64, error.limit)
                continue
            rays = (ray, *found, other)
            for one, two in zip(rays, rays[1:]):
                self.told(1, det(one, two))
            for one, middle, two in zip(rays, rays[1:], rays[2:]):
                # The middle one, times an integer from 2 on, is the sum of both.
                many = det(one, two)
                self.assertGreaterEqual(many, 2)
                self.told((many * middle[0], many * middle[1]), plus(one, two))

    def test_known_between(self):
        self.told((), put_between((1, 0), (0, 1)))
        self.told((), put_between((1, 0), (1000, 1)))
        self.told(((1, 1), (1, 2)), put_between((1, 0), (2, 5)))
        self.told(tuple((1, k) for k in range(1, 65)), put_between((1, 0), (1, 65)))
        self.fails(TooMany, put_between, (1, 0), (1, 66), limit=64)
        self.fails(TooMany, put_between, (1, 0), (1, SIXTY), limit=64)
        self.told(((0, -1),), put_between((-1, -1), (1, -1)))
        self.told(1, len(put_between((1, 0), (SIXTY, 2))))

    def test_smooth_fans(self):
        for _ in range(80):
            rays = random_rays(self.source, (1, 3, 8), 6)
            try:
                fan = smooth_fan(rays)
            except TooMany as error:
                self.told(64, error.limit)
                continue
            self.smooth_by_hand(fan)
            self.told(True, is_smooth(fan))
            kept = set(rays) | set(AXES)
            self.assertTrue(kept <= set(fan))
            # No ray that was put in could be left out.
            for at, ray in enumerate(fan):
                if ray not in kept:
                    self.assertGreater(det(fan[at - 1], fan[(at + 1) % len(fan)]), 1)

    def test_known_fans(self):
        self.told(AXES, smooth_fan(()))
        self.told(AXES, smooth_fan(AXES))
        self.told(((1, 0), (0, 1), (-1, 0), (-1, -1), (0, -1)), smooth_fan(((-1, -1),)))
        self.told(64, len(smooth_fan(((1, 60),))))
        self.fails(TooMany, smooth_fan, ((1, 61),), limit=64)
        # Fans that wind close to an axis: one ray more for each step.
        self.told(((1, 0), (50, 1)), smooth_fan(((50, 1),))[:2])
        self.told(54, len(smooth_fan(((50, 1),))))
        self.fails(TooMany, smooth_fan, ((1, SIXTY),), limit=64)
        many = tuple((1, k) for k in range(1, 61))
        self.told(64, len(smooth_fan(many)))
        self.fails(TooMany, smooth_fan, tuple((1, k) for k in range(1, 65)), limit=64)
        self.fails(InvalidOperation, smooth_fan, tuple((1, k) for k in range(1, 66)))

    def test_which_are_smooth(self):
        self.judges(is_smooth, ((1, 0), (0, 1), (-1, -1)))
        for fan in (AXES, ((0, 1), (-1, 0), (1, -1)), ((1, 1), (-1, 0), (0, -1))):
            self.told(True, is_smooth(fan))
        for fan in BAD_FANS:
            self.told(False, is_smooth(fan))
        # One number changed in its first ray: in turn as long as this is no ray below the axis.
        self.told([((1, 1),) + AXES[1:]], [fan for fan in changed(AXES) if is_smooth(fan) and fan[0] != (1, 0)])
        # Any number of rays, of any length.
        long = ((1, 0),) + tuple((1, k) for k in range(1, 200)) + ((0, 1), (-1, 0), (0, -1))
        self.told(True, is_smooth(long))
        self.fails(InvalidOperation, values_on, THREE, long)
        far = 10 ** 80
        self.told(True, is_smooth(((1, 0), (far, 1), (far - 1, 1), (-1, 0), (0, -1))))

    def test_smooth_by_words(self):
        for _ in range(300):
            rays = sorted_rays({random_ray(self.source, 1) for _ in range(self.source.randint(2, 7))})
            expected = len(rays) >= 3 and all(det(one, other) == 1 for one, other in zip(rays, rays[1:] + rays[:1]))
            self.told(expected, is_smooth(tuple(rays)))


class Values(Case):

    def some_fan(self):
        while True:
            rays = random_rays(self.source, (1, 4, 7), 4)
            try:
                return smooth_fan(rays)
            except TooMany:
                continue

    def test_values_make_one_function(self):
        for _ in range(80):
            fan = self.some_fan() if self.source.random() < 0.8 else ((1, 0), (0, 1), (-1, -1))
            values = tuple(self.source.randint(-9, 9) for _ in fan)
            found = round_by_values(fan, values)
            self.told(True, is_round(found))
            self.told(values, values_on(found, fan))
            self.assertTrue({ray for ray, _ in found[1]} <= set(fan))
            # In each cone it is one form, told by both rays.
            for at, ray in enumerate(fan):
                other = fan[(at + 1) % len(fan)]
                a, b = self.source.randint(0, 9), self.source.randint(0, 9)
                row = plus((a * ray[0], a * ray[1]), (b * other[0], b * other[1]))
                self.told(a * values[at] + b * values[(at + 1) % len(fan)], value_of_round(found, row))

    def test_functions_come_back(self):
        for _ in range(60):
            found = round_of(random_reading(self.source, 2, 5, 2))
            try:
                fan = smooth_fan(tuple(ray for ray, _ in found[1]))
            except TooMany:
                continue
            values = values_on(found, fan)
            self.told(values, tuple(value_of_round(found, ray) for ray in fan))
            self.told(found, round_by_values(fan, values))

    def test_hats(self):
        for _ in range(20):
            fan = self.some_fan()
            values = tuple(self.source.randint(-9, 9) for _ in fan)
            whole = round_by_values(fan, values)
            hats = [round_by_values(fan, tuple(int(k == at) for k in range(len(fan)))) for at in range(len(fan))]
            for _ in range(10):
                row = random_row(self.source, 2, 9)
                self.told(sum(value * value_of_round(hat, row) for value, hat in zip(values, hats, strict=True)),
                          value_of_round(whole, row))

    def test_known(self):
        self.told((1, 1, 0, 0), values_on(THREE, AXES))
        self.told(((1, 1), (((1, 0), 1), ((0, 1), 1), ((-1, 0), 1), ((0, -1), 1))), round_by_values(AXES, (1, 1, 0, 0)))
        self.told(((0, 0), ()), round_by_values(AXES, (0, 0, 0, 0)))
        self.told(((2, -3), ()), round_by_values(AXES, (2, -3, -2, 3)))
        self.told(((2, -3), ()), round_by_values(((0, 1), (-1, 0), (1, -1)), (-3, -2, 5)))

    def test_great_fans(self):
        fan = smooth_fan(tuple((1, k) for k in range(1, 61)))
        found = round_by_values(fan, tuple(k * k for k in range(64)))
        self.told(tuple(k * k for k in range(64)), values_on(found, fan))
        long = (SIXTY // 3,) * 4
        self.told(long, values_on(round_by_values(AXES, long), AXES))


class Errors(Case):

    def test_readings(self):
        for bad in BAD_READINGS:
            self.fails(InvalidReading, round_of, bad)
        for length in (1, 3, 8):
            self.fails(InvalidOperation, round_of, (((0,) * length,), ((1,) * length,)))

    def test_rounds(self):
        for bad in BAD_ROUNDS:
            self.fails(InvalidOperation, value_of_round, bad, (1, 2))
            self.fails(InvalidOperation, form_behind, bad, (1, 2))
            self.fails(InvalidOperation, values_on, bad, AXES)
            self.fails(InvalidOperation, value_of_round, bad, None)
            self.fails(InvalidOperation, form_behind, bad, None)

    def test_rows(self):
        for bad in BAD_ROWS:
            if bad not in (((0, 0)), (1, 2)) or isinstance(bad, list):
                self.fails(InvalidRow, value_of_round, THREE, bad)
                self.fails(InvalidRow, form_behind, THREE, bad)
        self.fails(InvalidOperation, form_behind, THREE, (0, 0))
        self.told(0, value_of_round(THREE, (0, 0)))

    def test_rays(self):
        for bad in BAD_RAYS:
            self.fails(InvalidRow, put_between, bad, (1, 0))
            self.fails(InvalidRow, put_between, (1, 0), bad)
            self.fails(InvalidRow, put_between, bad, None)
            self.fails(InvalidOperation, smooth_fan, (bad,))
            self.fails(InvalidOperation, smooth_fan, ((1, 0), bad))
        for other in ((1, 0), (-1, 0), (0, -1), (5, -1)):
            self.fails(InvalidOperation, put_between, (1, 0), other)
        for bad in (None, [], [(1, 0)], ((1, 0), (1, 0)), "rays", {(1, 0): 1}, 5, True, (1, 0), ((1, 0), [0, 1])):
            self.fails(InvalidOperation, smooth_fan, bad)

    def test_fans_and_values(self):
        for bad in BAD_FANS:
            self.fails(InvalidOperation, values_on, THREE, bad)
            self.fails(InvalidOperation, round_by_values, bad, (0, 0, 0, 0))
        for bad in ODD_VALUES + ((0, 0, 0), (0,) * 5, [0, 0, 0, 0], (0, 0, 0, True), (0, 0, 0, SIXTY + 1),
                                 (0, 0, 0, "0")):
            self.fails(InvalidOperation, round_by_values, AXES, bad)
        far = SIXTY + 1
        self.fails(InvalidOperation, values_on, THREE, ((1, 0), (far, 1), (far - 1, 1), (-1, 0), (0, -1)))

    def test_judges_let_each_value(self):
        for value in ODD_VALUES + BAD_READINGS:
            self.told(False, is_round(value))
            self.told(False, is_smooth(value))
        for value in spoilt(AXES):
            self.told(False, is_smooth(value))

    def test_equal_calls(self):
        for call in (lambda: round_of((SQUARE, TRIANGLE)), lambda: smooth_fan(((2, 5),)),
                     lambda: values_on(THREE, AXES)):
            self.assertTrue(same(call(), call()))
