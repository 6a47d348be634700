"""Stage 19: mixed volumes."""

from itertools import combinations, permutations
from math import comb, factorial, gcd

from tests.helpers import (
    ODD_VALUES, SIXTY, Case, changed, det, dot, lot_of, minus, moments, plus, random_lot, random_row, scale, span)

from rampworks.errors import InvalidLot, InvalidOperation, InvalidRow, TooMany
from rampworks.hull.corners import corners, is_lot
from rampworks.hull.mixed import (
    is_pairs_or_low, mixed, mixed_row, mixed_with_stick, pairs_or_low, stick_volume)
from rampworks.hull.sums import joined, moved, scaled, summed
from rampworks.hull.volumes import volume
from rampworks.net.networks import Network
from rampworks.net.readings import reading_of

TRIANGLE, SQUARE = ((0, 0), (0, 1), (1, 0)), ((0, 0), (0, 1), (1, 0), (1, 1))
STICK, POINT = ((0, 0), (1, 1)), ((0, 0),)


def stick(row):
    return lot_of(((0,) * len(row), row))


def total_of(lots):
    total = lots[0]
    for lot in lots[1:]:
        total = summed(total, lot)
    return total


def mixed_by_words(lots):
    """[19.1]: the sum over all ways to take some of the lots."""
    many, total = len(lots), 0
    for size in range(1, many + 1):
        for taken in combinations(lots, size):
            total += (-1) ** (many - size) * volume(total_of(taken))
    assert total % factorial(many) == 0
    return total // factorial(many)


def some_lots(source, length=None):
    """Lots of all kinds: flat ones, points, sticks, equal ones."""
    length = length or source.randint(1, 4)
    most = {1: 9, 2: 9, 3: 5, 4: 3}[length]
    lots = [random_lot(source, source.randint(1, most), length, source.choice((1, 2, 4))) for _ in range(length)]
    if length > 1 and source.random() < 0.3:
        lots[0] = lots[1]
    if source.random() < 0.3:
        lots[-1] = stick(random_row(source, length, 2))
    return tuple(lots)


class Mixed(Case):

    def test_by_words(self):
        for _ in range(80):
            lots = some_lots(self.source)
            told = mixed(lots)
            self.told(mixed_by_words(lots), told)
            self.assertGreaterEqual(told, 0)

    def test_neither_sequence_nor_moves_have_a_say(self):
        for _ in range(25):
            lots = some_lots(self.source)
            told = mixed(lots)
            for other in permutations(lots):
                self.told(told, mixed(other))
            row = random_row(self.source, len(lots), 9)
            self.told(told, mixed((moved(lots[0], row), *lots[1:])))
            self.told(volume(lots[0]), mixed((lots[0],) * len(lots)))
            # Points that are no corners have no say, and what grows does not fall.
            self.told(told, mixed(tuple(corners(lot) for lot in lots)))
            try:
                self.assertGreaterEqual(mixed((joined(lots[0], lots[-1]), *lots[1:])), told)
            except TooMany as error:
                self.told(60, error.limit)

    def test_they_add_up(self):
        for _ in range(40):
            lots = some_lots(self.source, self.source.randint(1, 3))
            other = random_lot(self.source, 3, len(lots), 2)
            both = mixed((summed(lots[0], other), *lots[1:]))
            self.told(both, mixed(lots) + mixed((other, *lots[1:])))
            self.told(3 * mixed(lots), mixed((scaled(lots[0], 3), *lots[1:])))

    def test_rows(self):
        for _ in range(40):
            length = self.source.randint(1, 4)
            most = {1: 5, 2: 9, 3: 6, 4: 4}[length]
            one, other = (random_lot(self.source, self.source.randint(1, most), length, 3) for _ in range(2))
            told = mixed_row(one, other)
            self.told(length + 1, len(told))
            self.told((volume(other), volume(one)), (told[0], told[-1]))
            self.told(told[::-1], mixed_row(other, one))
            for many, size in enumerate(told):
                self.told(size, mixed((one,) * many + (other,) * (length - many)))
            for c, d in ((1, 1), (2, 1), (1, 3), (0, 2)):
                total = sum(comb(length, i) * c ** i * d ** (length - i) * told[i] for i in range(length + 1))
                self.told(total, volume(summed(scaled(one, c), scaled(other, d))))

    def test_rows_of_four_members(self):
        for at in range(12):
            one, other = (random_lot(self.source, self.source.randint(5, 6), 4, 2) for _ in range(2))
            if at % 3 == 0:
                other = moved(scaled(one, 2), (1, 2, 3, 4))
            try:
                told = mixed_row(one, other)
            except TooMany as error:
                self.told(60, error.limit)
                continue
            for many, size in enumerate(told):
                self.told(size, mixed_by_words((one,) * many + (other,) * (4 - many)))

    def test_flat_ones(self):
        self.told(0, mixed((STICK, STICK)))
        self.told(0, mixed((POINT, SQUARE)))
        # A flat lot, and a mixed volume above 0; and above both vols.
        self.told(1, mixed((TRIANGLE, stick((0, 1)))))
        self.told((0, 5, 0), mixed_row(stick((1, 0)), stick((0, 5))))
        flat = ((0, 0, 0), (0, 1, 0), (1, 0, 0))
        self.told((0, 0, 0, 0), mixed_row(flat, flat))
        self.told(2, mixed((flat, flat, stick((0, 0, 2)))))
        # No determinant of pairs reaches 2.
        self.told(2, mixed((TRIANGLE, SQUARE)))
        self.told((7,), (mixed((((-3,), (4,)),)),))

    def test_great_ones(self):
        wide = moments(29, 2)
        self.told(mixed_by_words((wide, TRIANGLE)), mixed((wide, TRIANGLE)))
        edges = [minus(y, x) for x, y in zip(moments(61, 2), moments(61, 2)[1:])]
        most = lot_of([(0, 0)] + [tuple(map(sum, zip(*edges[:k]))) for k in range(1, 60)])
        self.told(60, len(corners(most)))
        self.told((volume(most), 0, 0), mixed_row(POINT, most))
        long_lot = tuple(sorted((-SIXTY * x, SIXTY * y) for x, y in SQUARE))
        self.told(2 * SIXTY * SIXTY, mixed((long_lot, long_lot)))
        for length in (3, 4):
            lot = moments(7 if length == 3 else 5, length)
            self.told(volume(lot), mixed((lot,) * length))

    def test_sixty_corners(self):
        # Polygons with unlike edges: their sum has as many corners as both together.
        def polygon(many, first):
            rows = [(1, first + 2 * k) for k in range(many - 1)]
            return lot_of([(0, 0)] + [tuple(map(sum, zip(*rows[:k]))) for k in range(1, many)])
        for more in (0, 1):
            one, other = polygon(30, 0), polygon(30 + more, 1)
            self.told(60 + more, len(summed(one, other)))
            if more:
                self.fails(TooMany, mixed, (one, other), limit=60)
                self.fails(TooMany, mixed_row, one, other, limit=60)
            else:
                self.told(mixed_by_words((one, other)), mixed((one, other)))
                self.told(mixed((one, other)), mixed_row(one, other)[1])
        wide = moments(61, 2)
        self.fails(TooMany, mixed, (POINT, wide), limit=60)
        self.fails(TooMany, mixed_row, wide, POINT, limit=60)
        self.told(0, mixed((POINT, moments(60, 2))))
        self.fails(TooMany, mixed, (moments(5, 3),) * 2 + (moments(61, 3),), limit=60)
        self.fails(TooMany, mixed, tuple(random_lot(self.source, 5, 4, 50) for _ in range(4)), limit=60)
        # One member: there are two corners at most.
        line = tuple((k,) for k in range(400))
        self.told((399,), (mixed((line,)),))
        self.told((399, 399), mixed_row(line, line))


class Sticks(Case):

    def test_volumes(self):
        for _ in range(60):
            length = self.source.randint(1, 4)
            rows = tuple(random_row(self.source, length, 2) for _ in range(self.source.randint(1, 6)))
            by_sums = factorial(length) * sum(abs(det(lot)) for lot in combinations(rows, length))
            self.told(by_sums, stick_volume(rows))
            self.told(volume(total_of([stick(row) for row in rows])), stick_volume(rows))

    def test_mixed_of_sticks(self):
        for _ in range(40):
            length = self.source.randint(1, 4)
            rows = tuple(random_row(self.source, length, 3) for _ in range(length))
            self.told(abs(det(rows)), mixed(tuple(stick(row) for row in rows)))

    def test_most(self):
        rows = tuple(random_row(self.source, 4, 9) for _ in range(24))
        self.told(24 * sum(abs(det(lot)) for lot in combinations(rows[:9], 4)), stick_volume(rows[:9]))
        self.assertGreater(stick_volume(rows), stick_volume(rows[:9]))
        self.told(0, stick_volume(((0, 0),) * 24))
        self.told(24 * SIXTY, stick_volume(((SIXTY,),) * 24))
        self.told(stick_volume(rows), stick_volume(tuple(scale(row, -1) for row in rows[::-1])))

    def test_of_networks(self):
        for _ in range(20):
            length = self.source.randint(1, 3)
            rows = tuple(random_row(self.source, length, 2) for _ in range(4))
            weights = tuple(self.source.randint(-3, 3) for _ in rows)
            above, below = reading_of(Network(length, (rows,), (0,) * length + weights))
            for lot, sign in ((above, 1), (below, -1)):
                sticks = tuple(scale(row, abs(c)) for row, c in zip(rows, weights) if c * sign > 0)
                self.told(stick_volume(sticks) if sticks else 0, volume(lot))

    def test_a_stick_among_others(self):
        for _ in range(60):
            lots = some_lots(self.source, self.source.randint(2, 4))
            row = random_row(self.source, len(lots), 3)
            self.told(mixed((*lots[:-1], stick(row))), mixed_with_stick(lots[:-1], row))
        for _ in range(20):
            lot, row = random_lot(self.source, 6, 2, 5), random_row(self.source, 2, 4)
            quarter = (-row[1], row[0])
            told = [dot(point, quarter) for point in lot]
            self.told(max(told) - min(told), mixed_with_stick((lot,), row))
            self.told(gcd(*row) * (max(told) - min(told)), mixed_with_stick((lot,), scale(row, gcd(*row))))
        self.told(0, mixed_with_stick((TRIANGLE,), (0, 0)))


class Either(Case):

    def test_pairs_or_low(self):
        found = {}
        for _ in range(120):
            lots = some_lots(self.source)
            if self.source.random() < 0.3:
                lots = tuple(random_lot(self.source, 2, len(lots), 1) for _ in lots)
            told = pairs_or_low(lots)
            found[told[0]] = found.get(told[0], 0) + 1
            size = mixed(lots)
            self.told("pairs" if size > 0 else "low", told[0])
            self.told(True, is_pairs_or_low(lots, told))
            if told[0] == "pairs":
                leads = [minus(lot[y], lot[x]) for lot, (x, y) in zip(lots, told[1], strict=True)]
                self.assertTrue(0 < abs(det(leads)) <= size)
            else:
                total = total_of([lots[k] for k in told[1]])
                self.assertLess(span([minus(point, total[0]) for point in total]), len(told[1]))
            for low in [low for many in range(1, len(lots) + 1) for low in combinations(range(len(lots)), many)]:
                total = total_of([lots[k] for k in low])
                is_low = span([minus(point, total[0]) for point in total]) < len(low)
                self.told(is_low, is_pairs_or_low(lots, ("low", low)))
        self.assertGreater(min(found.values()), 25)

    def test_judge(self):
        lots = (TRIANGLE, STICK)
        self.judges(lambda value: is_pairs_or_low(lots, value), ("pairs", ((0, 1), (0, 1))))
        self.judges(lambda value: is_pairs_or_low((STICK, STICK), value), ("low", (0, 1)))
        for pairs in (((1, 0), (0, 1)), ((0, 2), (1, 0)), ((1, 2), (0, 1))):
            self.told(True, is_pairs_or_low(lots, ("pairs", pairs)))
        for pairs in (((0, 0), (0, 1)), ((0, 3), (0, 1)), ((0, -1), (0, 1)), ((0, 1),), ((0, 1), (0, 1), (0, 1)),
                      ((0, 1, 2), (0, 1)), ((0, 10 ** 99), (0, 1))):
            self.told(False, is_pairs_or_low(lots, ("pairs", pairs)))
        self.told(False, is_pairs_or_low((STICK, STICK), ("pairs", ((0, 1), (0, 1)))))
        for low in ((), (0,), (1,), (1, 0), (0, 0), (0, 2), (-1, 0), (0, 1, 2), (0, 10 ** 99)):
            self.told(False, is_pairs_or_low((STICK, STICK), ("low", low)))
        self.refuses_all(lambda value: is_pairs_or_low(lots, value), changed(("low", (0, 1))))
        self.told(True, is_pairs_or_low((POINT, POINT), ("low", (0, 1))))
        self.told(True, is_pairs_or_low((POINT, POINT), ("low", (1,))))
        self.told(("low", (0,)), pairs_or_low((POINT, SQUARE)))
        self.told(("low", (0,)), pairs_or_low((((5,),),)))

    def test_many_points(self):
        # No bound on corners here.
        lots = (moments(400, 2, -200), moments(400, 2))
        self.told("pairs", pairs_or_low(lots)[0])
        self.told(True, is_pairs_or_low(lots, ("pairs", ((399, 0), (0, 399)))))


class Errors(Case):

    def test_lots(self):
        space = ((0, 0, 0), (0, 0, 1))
        bad_ones = tuple(bad for bad in ODD_VALUES if not (bad and isinstance(bad, tuple) and all(
            is_lot(lot) and len(lot[0]) == len(bad) for lot in bad)))
        for bad in bad_ones + ((TRIANGLE,), (TRIANGLE,) * 3, [TRIANGLE, SQUARE], (TRIANGLE, space), (TRIANGLE, None),
                               (TRIANGLE, ((1, 0), (0, 0))), (((0,) * 5,),) * 5, (TRIANGLE, [(0, 0)])):
            self.fails(InvalidOperation, mixed, bad)
            self.fails(InvalidOperation, pairs_or_low, bad)
            self.fails(InvalidOperation, is_pairs_or_low, bad, None)
        for bad in ODD_VALUES + ((TRIANGLE,) * 2, (space,), [TRIANGLE], (((0,),),), (((0,) * 5,),) * 4, (TRIANGLE, space)):
            self.fails(InvalidOperation, mixed_with_stick, bad, None)
            self.fails(InvalidOperation, mixed_with_stick, bad, (1, 2))

    def test_rows(self):
        for bad in ODD_VALUES + ((), (1,) * 9, [1, 2], (1, True), (1, SIXTY + 1)):
            if not (isinstance(bad, tuple) and bad and len(bad) < 9
                    and all(type(x) is int and abs(x) <= SIXTY for x in bad)):
                self.fails(InvalidRow, mixed_with_stick, (TRIANGLE,), bad)
        for row in ((1,), (1, 2, 3), (0, 0, 0), (0,)):
            self.fails(InvalidOperation, mixed_with_stick, (TRIANGLE,), row)
        wide = (moments(61, 3),) * 2
        self.fails(InvalidOperation, mixed_with_stick, wide, (1, 2))
        self.fails(TooMany, mixed_with_stick, wide, (0, 0, 1), limit=60)
        self.told(0, mixed_with_stick(wide, (0, 0, 0)))
        for bad in ODD_VALUES + (((1, 2),) * 25, ((1,) * 5,), ((1, 2), (1,)), [(1, 2)], ((1, True),), ((SIXTY + 1,),)):
            if bad not in (((2,), (1,)), ((1,), (1,))):
                self.fails(InvalidOperation, stick_volume, bad)

    def test_of_mixed_row(self):
        for bad in ODD_VALUES:
            if not is_lot(bad):
                self.fails(InvalidLot, mixed_row, bad, None)
                self.fails(InvalidLot, mixed_row, TRIANGLE, bad)
        five = ((0,) * 5,)
        self.fails(InvalidOperation, mixed_row, TRIANGLE, ((0, 0, 0),))
        self.fails(InvalidOperation, mixed_row, five, five)
        self.fails(InvalidOperation, mixed_row, moments(61, 2), ((0, 0, 0),))

    def test_judge_lets_each_value(self):
        for value in ODD_VALUES:
            self.told(False, is_pairs_or_low((TRIANGLE, SQUARE), value))

    def test_equal_calls(self):
        for _ in range(10):
            lots = some_lots(self.source)
            self.told(mixed(lots), mixed(lots))
            self.told(pairs_or_low(lots), pairs_or_low(lots))
            self.told(lots, tuple(tuple(plus(point, (0,) * len(point)) for point in lot) for lot in lots))
