"""Stage 15: cells of one layer."""

from itertools import combinations, product
from math import comb

from tests.helpers import ODD_VALUES, SIXTY, Case, changed, dot, longest, mix, moments, plus, random_row, scale, span

from rampworks.errors import InvalidNumber, InvalidOperation, InvalidRow, Refused
from rampworks.hull.sums import summed
from rampworks.stick.cells import (
    cell_at, cell_or_weights, cells, corner_of, count_cells, general_or_lot, is_cell_or_weights, is_general_or_lot,
    is_way, most_cells, walls, way_between)

FAN = ((1, 0), (0, 1), (1, 1))
BESIDE = ((1, 0), (-2, 0), (0, 1), (3, 0), (0, -1))
BAD_STICKS = tuple(value for value in ODD_VALUES if value != ((2,), (1,)) and value != ((1,), (1,))) + (
    ((0, 0),), ((1, 0), (0, 0)), ((1, 2), (1,)), [(1, 2)], ((1, 2), [1, 2]), ((True, 2),), ((SIXTY + 1, 0),),
    ((1, 2, 3, 4, 5),), ((1, 0),) * 13, (1, 2))


def random_sticks(source, many=None, length=None, size=None):
    """Sticks of all kinds: beside one another, opposite ones, sums of others."""
    many, length = many or source.randint(1, 7), length or source.randint(1, 4)
    size = size or source.choice((1, 2, 5, 10 ** 5))
    found = []
    while len(found) < many:
        row = random_row(source, length, size)
        kind = source.randrange(6)
        if found and kind == 0:
            row = scale(source.choice(found), source.choice((-2, -1, 1, 3)))
        elif len(found) > 1 and kind == 1:
            row = plus(source.choice(found), source.choice(found))
        if any(row):
            found.append(row)
    return tuple(found)


def by_ranks(sticks):
    """[15.3]: how many cells there are, by the ranks of all lots."""
    total = 0
    for size in range(len(sticks) + 1):
        for lot in combinations(sticks, size):
            total += 1 if (size - (span(lot) if lot else 0)) % 2 == 0 else -1
    return total


def planes_by(sticks):
    """The groups of sticks beside one another."""
    found = []
    for at, stick in enumerate(sticks):
        for group in found:
            if span((sticks[group[0]], stick)) == 1:
                group.append(at)
                break
        else:
            found.append([at])
    return [tuple(group) for group in found]


def turned(signs, plane):
    return tuple(-sign if at in plane else sign for at, sign in enumerate(signs))


def opposite(signs):
    return tuple(-sign for sign in signs)


class Either(Case):

    def test_row_or_weights_for_all_signs(self):
        for _ in range(40):
            sticks = random_sticks(self.source, self.source.randint(1, 5))
            told = cells(sticks)
            for signs in product((-1, 1), repeat=len(sticks)):
                paper = cell_or_weights(sticks, signs)
                self.told("cell" if signs in told else "weights", paper[0])
                if paper[0] == "cell":
                    self.assertTrue(all(sign * dot(stick, paper[1]) > 0 for sign, stick in zip(signs, sticks)))
                else:
                    self.assertTrue(any(paper[1]) and min(paper[1]) >= 0)
                    both = [sign * weight for sign, weight in zip(signs, paper[1], strict=True)]
                    self.told((0,) * len(sticks[0]), mix(both, sticks))
                self.told(True, is_cell_or_weights(sticks, signs, paper))
                self.assertLessEqual(longest(paper), 50)

    def test_cells_ascend_and_turn(self):
        for _ in range(40):
            sticks = random_sticks(self.source)
            told = cells(sticks)
            self.told(tuple(sorted(set(told))), told)
            self.told(len(told), count_cells(sticks))
            self.told(told, tuple(opposite(signs) for signs in reversed(told)))
            for _ in range(10):
                row = random_row(self.source, len(sticks[0]), 30)
                signs = cell_at(sticks, row)
                if signs is None:
                    self.assertIn(0, [dot(stick, row) for stick in sticks])
                else:
                    self.assertIn(signs, told)
                    self.assertTrue(all(sign * dot(stick, row) > 0 for sign, stick in zip(signs, sticks)))

    def test_judge(self):
        self.judges(lambda value: is_cell_or_weights(FAN, (1, -1, 1), value), ("cell", (2, -1)))
        self.judges(lambda value: is_cell_or_weights(FAN, (1, 1, -1), value), ("weights", (1, 1, 1)))
        self.refuses_all(lambda value: is_cell_or_weights(FAN, (1, 1, -1), value), changed(("weights", (1, 1, 1))))
        # Whoever made it, and however long.
        for row in ((3, -1), (10 ** 99, -1), (10 ** 99, 1 - 10 ** 99)):
            self.told(True, is_cell_or_weights(FAN, (1, -1, 1), ("cell", row)))
        for weights in ((2, 2, 2), (10 ** 99,) * 3):
            self.told(True, is_cell_or_weights(FAN, (1, 1, -1), ("weights", weights)))
        for value in (("cell", (1, -1)), ("cell", (0, 0)), ("cell", (2, 1)), ("weights", (0, 0, 0)),
                      ("weights", (-1, -1, 1)), ("weights", (1, 1, 1)), ("weights", (0, 0, 0, 0))):
            self.told(False, is_cell_or_weights(FAN, (1, -1, 1), value))
        self.told(False, is_cell_or_weights(FAN, (1, 1, -1), ("cell", (2, -1))))
        self.told(False, is_cell_or_weights(FAN, (1, 1, -1), ("weights", (-1, -1, -1))))
        # Two sticks of one plane bar signs, and sums of others, too.
        self.told(True, is_cell_or_weights(BESIDE, (1, 1, 1, 1, 1), ("weights", (2, 1, 0, 0, 0))))
        self.told(True, is_cell_or_weights(BESIDE, (1, 1, 1, 1, 1), ("weights", (2, 1, 1, 0, 1))))


class Counted(Case):

    def test_by_ranks(self):
        for _ in range(40):
            sticks = random_sticks(self.source, self.source.randint(1, 6))
            self.told(by_ranks(sticks), count_cells(sticks))
            self.assertLessEqual(count_cells(sticks), most_cells(len(sticks), len(sticks[0])))

    def test_as_many_as_corners_of_the_sum(self):
        for _ in range(40):
            sticks = random_sticks(self.source)
            zeros = (0,) * len(sticks[0])
            total = (zeros,)
            for stick in sticks:
                total = summed(total, tuple(sorted((zeros, stick))))
            found = cells(sticks)
            corners = [corner_of(sticks, signs) for signs in found]
            self.told(total, tuple(sorted(corners)))
            for signs, corner in zip(found, corners):
                self.told(mix([(sign + 1) // 2 for sign in signs], sticks), corner)
                row = cell_or_weights(sticks, signs)[1]
                self.assertTrue(all(dot(row, corner) > dot(row, point) for point in total if point != corner))

    def test_most(self):
        for many in range(1, 13):
            for length in range(1, 5):
                most = 2 * sum(comb(many - 1, k) for k in range(length))
                self.told(most, most_cells(many, length))
                # Rows of a curve are general.
                sticks = tuple(tuple(k ** at for at in range(length)) for k in range(1, many + 1))
                self.told(most, count_cells(sticks))
                self.told(("general",), general_or_lot(sticks))
        self.told(464, count_cells(moments(12, 4, 1)))

    def test_general_or_lot(self):
        for _ in range(120):
            sticks = random_sticks(self.source)
            told = general_or_lot(sticks)
            general = count_cells(sticks) == most_cells(len(sticks), len(sticks[0]))
            self.told("general" if general else "lot", told[0])
            self.told(True, is_general_or_lot(sticks, told))
            self.told(general, is_general_or_lot(sticks, ("general",)))
            for size in range(len(sticks[0]) + 2):
                for lot in combinations(range(len(sticks)), size):
                    low = 0 < size <= len(sticks[0]) and span([sticks[k] for k in lot]) < size
                    self.told(low, is_general_or_lot(sticks, ("lot", lot)))

    def test_judge_of_general(self):
        self.judges(lambda value: is_general_or_lot(FAN, value), ("general",))
        self.judges(lambda value: is_general_or_lot(BESIDE, value), ("lot", (0, 1)))
        for lot in ((0, 3), (1, 3), (2, 4)):
            self.told(True, is_general_or_lot(BESIDE, ("lot", lot)))
        for lot in ((), (0,), (1, 0), (0, 0), (0, 2), (0, 1, 2), (-1, 2), (3, 5), (-5, 0), (0, 10 ** 99)):
            self.told(False, is_general_or_lot(BESIDE, ("lot", lot)))


class Ways(Case):

    def test_walls(self):
        for _ in range(40):
            sticks = random_sticks(self.source)
            known, planes = cells(sticks), planes_by(sticks)
            for signs in self.source.sample(known, min(4, len(known))):
                told = walls(sticks, signs)
                self.told(tuple(sorted(plane for plane in planes if turned(signs, plane) in known)), told)
                self.assertGreaterEqual(len(told), span(sticks))
                # The walls alone tell the cell.
                kept = [plane[0] for plane in told]
                like = [other for other in known if all(other[k] == signs[k] for k in kept)]
                self.told([signs], like)

    def test_walls_of_sticks_beside_one_another(self):
        signs = (1, -1, 1, 1, -1)
        self.told(((0, 1, 3), (2, 4)), walls(BESIDE, signs))
        self.told(4, count_cells(BESIDE))
        self.told(((0,),), walls(((5, 0),), (-1,)))
        self.told(((0, 1, 2),), walls(((2, 1), (-4, -2), (2, 1)), (1, -1, 1)))

    def test_shortest_ways(self):
        for _ in range(40):
            sticks = random_sticks(self.source)
            known, planes = cells(sticks), planes_by(sticks)
            for _ in range(3):
                one = self.source.choice(known)
                other = self.source.choice((self.source.choice(known), opposite(one)))
                told = way_between(sticks, one, other)
                apart = [plane for plane in planes if one[plane[0]] != other[plane[0]]]
                self.told(1 + len(apart), len(told))
                self.told((one, other), (told[0], told[-1]))
                crossed = []
                for begin, end in zip(told, told[1:]):
                    self.assertIn(end, known)
                    plane = tuple(at for at in range(len(sticks)) if begin[at] != end[at])
                    crossed.append(plane)
                self.told(sorted(apart), sorted(crossed))
                self.told(True, is_way(sticks, one, other, told))
                self.told(told[::-1] == told, is_way(sticks, one, other, told[::-1]))

    def test_many_planes_crossed_at_once(self):
        # Rows that lead straight through a place where many planes meet.
        for length in (2, 3, 4):
            units = [tuple(int(k == at) for k in range(length)) for at in range(length)]
            sticks = tuple(units + [plus(one, other) for one, other in combinations(units, 2)])[:12]
            one = (1,) * len(sticks)
            self.told(1 + len(sticks), len(way_between(sticks, one, opposite(one))))
            self.told(True, is_way(sticks, one, opposite(one), way_between(sticks, one, opposite(one))))

    def test_longer_ways(self):
        one, two, three = (1, 1, 1), (1, -1, 1), (1, -1, -1)
        self.judges(lambda value: is_way(FAN, one, three, value), (one, two, three))
        round_about = ((1, 1, 1), (-1, 1, 1), (-1, 1, -1), (-1, -1, -1), (1, -1, -1))
        for value in (round_about, (one, two, one, two, three), (one, two, three, two, three)):
            self.told(True, is_way(FAN, one, three, value))
        for value in ((one, three), (one, one, two, three), (two, three), (one, two), (), (one,), three,
                      (one, (1, 1, -1), three), (one, (-1, 1, 1), (-1, -1, 1), (-1, -1, -1), three)):
            self.told(False, is_way(FAN, one, three, value))
        self.told(((1, 1, 1),), way_between(FAN, one, one))
        self.told(True, is_way(FAN, one, one, (one,)))
        self.told(True, is_way(FAN, one, one, (one, two, one)))
        self.told(False, is_way(FAN, one, one, ()))
        long_way = (one,) + (two, one) * 500
        self.told(True, is_way(FAN, one, one, long_way))
        # Sticks of one plane turn together.
        begin, end = (1, -1, 1, 1, -1), (1, -1, -1, 1, 1)
        self.told((begin, end), way_between(BESIDE, begin, end))
        self.told(False, is_way(BESIDE, begin, end, (begin, (1, -1, -1, 1, -1), end)))


class Bounds(Case):

    def test_twelve_sticks_of_four(self):
        for size in (1, 9, 10 ** 5, SIXTY):
            sticks = random_sticks(self.source, 12, 4, size if size < SIXTY else 1)
            if size == SIXTY:
                sticks = tuple(random_row(self.source, 4, size) for _ in sticks)
            known = cells(sticks)
            one = known[len(known) // 3]
            self.told(count_cells(sticks), len(known))
            self.told(True, is_general_or_lot(sticks, general_or_lot(sticks)))
            self.told(True, is_cell_or_weights(sticks, one, cell_or_weights(sticks, one)))
            self.told(len(planes_by(sticks)) + 1, len(way_between(sticks, one, opposite(one))))
            for plane in walls(sticks, one):
                self.assertIn(turned(one, plane), known)
        self.told(12, len(walls(((1,),) * 12, (1,) * 12)[0]))
        self.told(((-1,) * 12, (1,) * 12), cells(((1,),) * 12))


class Errors(Case):

    def test_sticks(self):
        signs = (1, 1)
        calls = (
            lambda sticks: cell_or_weights(sticks, signs), lambda sticks: is_cell_or_weights(sticks, signs, None), cells,
            count_cells, general_or_lot, lambda sticks: is_general_or_lot(sticks, None),
            lambda sticks: corner_of(sticks, signs), lambda sticks: cell_at(sticks, (1, 2)),
            lambda sticks: walls(sticks, signs), lambda sticks: way_between(sticks, signs, signs),
            lambda sticks: is_way(sticks, signs, signs, None), lambda sticks: cell_at(sticks, None),
            lambda sticks: walls(sticks, None))
        for bad in BAD_STICKS:
            for call in calls:
                self.fails(InvalidOperation, call, bad)

    def test_signs(self):
        bad = ODD_VALUES + ((1, 1), (1, 1, 1, 1), (1, 0, 1), (1, 1, 2), (True, 1, 1), [1, 1, 1], (1, 1, "1"))
        good = (1, 1, 1)
        for signs in bad:
            for call in (
                    cell_or_weights, corner_of, walls, lambda sticks, told: is_cell_or_weights(sticks, told, None),
                    lambda sticks, told: way_between(sticks, told, good),
                    lambda sticks, told: way_between(sticks, good, told),
                    lambda sticks, told: way_between(sticks, (1, 1, -1), told),
                    lambda sticks, told: is_way(sticks, good, told, None),
                    lambda sticks, told: is_way(sticks, told, good, None)):
                self.fails(InvalidOperation, call, FAN, signs)

    def test_no_cells(self):
        bad, good = (1, 1, -1), (1, 1, 1)
        for call in (corner_of, walls, lambda sticks, signs: way_between(sticks, signs, good),
                     lambda sticks, signs: way_between(sticks, good, signs),
                     lambda sticks, signs: is_way(sticks, good, signs, None),
                     lambda sticks, signs: is_way(sticks, signs, signs, (signs,))):
            self.fails(Refused, call, FAN, bad, reason=("cell",))
        self.told("weights", cell_or_weights(FAN, bad)[0])

    def test_rows_and_numbers(self):
        for row in ODD_VALUES + ((1,), (1, 2, 3), [1, 2], (1, True), (1, SIXTY + 1)):
            self.fails(InvalidRow, cell_at, FAN, row)
        self.told((1, 1, 1), cell_at(FAN, (SIXTY, SIXTY)))
        self.told(None, cell_at(FAN, (0, 0)))
        for number in (0, 13, -1, True, False, None, "1", 10 ** 60, (1,), 1000):
            self.fails(InvalidNumber, most_cells, number, 2, given=number)
            self.fails(InvalidNumber, most_cells, number, None, given=number)
        for number in (0, 5, -1, True, False, None, "1", 10 ** 60, (1,)):
            self.fails(InvalidNumber, most_cells, 3, number, given=number)

    def test_judges_let_each_value(self):
        for value in ODD_VALUES:
            self.told(False, is_cell_or_weights(FAN, (1, 1, 1), value))
            self.told(False, is_general_or_lot(FAN, value))
            self.told(False, is_way(FAN, (1, 1, 1), (1, -1, 1), value))

    def test_equal_calls(self):
        for _ in range(10):
            sticks = random_sticks(self.source)
            one = cells(sticks)[0]
            for call in (lambda: cells(sticks), lambda: walls(sticks, one), lambda: general_or_lot(sticks),
                         lambda: way_between(sticks, one, opposite(one)), lambda: cell_or_weights(sticks, one)):
                self.told(call(), call())

    def test_what_is_not_true(self):
        # More sticks, no more cells; no two beside one another, and not general.
        self.told(count_cells(((1, 0), (0, 1))), count_cells(((1, 0), (2, 0), (0, 1))))
        self.told("lot", general_or_lot(((1, 0, 0), (0, 1, 0), (1, 1, 0)))[0])
