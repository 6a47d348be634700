"""Stage 8: how lots grow, and what bars layers."""

from tests.helpers import ODD_VALUES, SIXTY, Case, dot, lot_of, moments, random_lot, random_row, same, value
from tests.makings import polygon_network
from tests.test_networks import BAD_NETWORKS, LAMP, random_network
from tests.test_readings import BAD_READINGS, random_reading, square_network

from rampworks.depth import bars as told
from rampworks.depth.bars import are_growths, barred, grown, growths_of, is_growth, level_of, parity
from rampworks.errors import InvalidGrowth, InvalidNetwork, InvalidOperation, InvalidReading, TooMany
from rampworks.hull.corners import corners
from rampworks.hull.sums import face, moved, summed
from rampworks.hull.volumes import own_volume, volume
from rampworks.net.networks import Network, form_network
from rampworks.net.readings import reading_of

GROWN = ("join", ("sum", (("join", ("point", (0, 0)), ("point", (1, 0))), ("point", (0, 0)))), ("point", (0, 1)))
TRIANGLE, POINT = ((0, 0), (0, 1), (1, 0)), ((0, 0),)
BAD_GROWTHS = ODD_VALUES + (
    ("point", ()), ("point", (0,) * 9), ("point", [0]), ("point", (True,)), ("point", 0), ("point", (0,), (0,)),
    ["point", (0,)], ("dot", (0,)), ("point",), ("times", 0, ("point", (1,))), ("times", -1, ("point", (1,))),
    ("times", True, ("point", (1,))), ("times", "2", ("point", (1,))), ("times", 2), ("times", 2, ("point", ())),
    ("times", ("point", (1,)), 2), ("times", 2, ("point", (1,)), ("point", (1,))), ("sum", ()),
    ("sum", ("point", (0,))),
    ("sum", [("point", (0,))]), ("sum", (("point", (0,)), ("point", (0, 0)))),
    ("sum", ("point", (1,)), ("point", (1,))),
    ("join", ("point", (0,))), ("join", ("point", (0,)), ("point", (1, 0))),
    ("join", (("point", (0,)), ("point", (1,)))),
    ("join", ("point", (0,)), ("point", (1,)), ("point", (2,))), ("join", ("point", (0,)), None), b"point",
    ("point", None),
    ("sum", (("point", (0,)),) * 201), (b"point", (0,)))


def point(*row):
    return "point", row


def value_grown(growth, row):
    """What the lot of a growth tells, word by word."""
    word = growth[0]
    if word == "point":
        return dot(growth[1], row)
    if word == "times":
        return growth[1] * value_grown(growth[2], row)
    if word == "sum":
        return sum(value_grown(part, row) for part in growth[1])
    return max(value_grown(growth[1], row), value_grown(growth[2], row))


def level_told(growth):
    word = growth[0]
    if word == "point":
        return 0
    if word == "times":
        return level_told(growth[2])
    if word == "sum":
        return max(level_told(part) for part in growth[1])
    return 1 + max(level_told(growth[1]), level_told(growth[2]))


def words_told(growth):
    word = growth[0]
    if word == "point":
        return 1
    if word == "times":
        return 1 + words_told(growth[2])
    return 1 + sum(words_told(part) for part in (growth[1] if word == "sum" else growth[1:]))


def random_growth(source, length, level, deep=3, size=2):
    """A growth of at most this level."""
    word = source.choice(("point", "times", "sum", "join", "join") if deep > 0 else ("point",))
    if word == "join" and level == 0:
        word = "point"
    if word == "point":
        return "point", random_row(source, length, size)
    if word == "times":
        return "times", source.randint(1, 3), random_growth(source, length, level, deep - 1, size)
    if word == "sum":
        return "sum", tuple(
            random_growth(source, length, level, deep - 1, size) for _ in range(source.randint(1, 3)))
    return "join", *(random_growth(source, length, level - 1, deep - 1, size) for _ in range(2))


def by_words(network):
    """The pair of growths by the words of [8.2]."""
    length = network.inputs
    zeros = ("point", (0,) * length)
    parts = [(("point", tuple(int(k == at) for k in range(length))), zeros) for at in range(length)]

    def of_row(row):
        sides = ([], [])
        for number, part in zip(row, parts):
            for side in (0, 1):
                growth = part[side if number > 0 else 1 - side]
                if number != 0:
                    sides[side].append(growth if abs(number) == 1 else ("times", abs(number), growth))
        return tuple(zeros if not side else side[0] if len(side) == 1 else ("sum", tuple(side)) for side in sides)
    for unit in network.units:
        above, below = of_row(unit)
        parts.append((("join", above, below), below))
    return of_row(network.last)


def simplex(length):
    return lot_of([(0,) * length] + [tuple(int(k == at) for k in range(length)) for at in range(length)])


class Growths(Case):

    def test_which_values_are_growths(self):
        for growth in (point(0), point(*(1,) * 8), GROWN, ("times", 1, point(5)), ("sum", (point(1, 2),)),
                       ("sum", (point(1),) * 200), ("join", point(1), point(1))):
            self.told(True, is_growth(growth))
        for growth in BAD_GROWTHS:
            self.told(False, is_growth(growth))
        for at in range(40):
            growth = random_growth(self.source, self.source.randint(1, 8), 3)
            self.told(True, is_growth(growth))
            self.told(level_told(growth), level_of(growth))

    def test_integers_of_any_length_are_judged_but_not_taken(self):
        for growth in (point(SIXTY + 1), point(0, -SIXTY - 1), ("times", SIXTY + 1, point(1)),
                       ("sum", (point(1), ("times", 10 ** 99, point(1))))):
            self.told(True, is_growth(growth))
            self.fails(InvalidGrowth, level_of, growth)
            self.fails(InvalidGrowth, grown, growth)
        self.told(((SIXTY * SIXTY,),), grown(("times", SIXTY, point(SIXTY))))

    def test_most_words(self):
        # One word for the sum in front, and 2 for each of its growths but the last one.
        full = ("sum", (("times", 2, point(1)),) * 199 + (point(1),))
        self.told(400, words_told(full))
        self.told(True, is_growth(full))
        self.told(((399,),), grown(full))
        more = ("sum", (("times", 2, point(1)),) * 200)
        self.told(401, words_told(more))
        self.told(False, is_growth(more))
        self.fails(InvalidGrowth, level_of, more)
        wide = point(1)
        for _ in range(15):
            wide = ("join", wide, wide)
        self.told(False, is_growth(wide))

    def test_most_deep(self):
        deep = point(1, 1)
        for at in range(15):
            deep = ("join", deep, point(at, 0)) if at % 2 else ("times", 2, deep)
        self.told(True, is_growth(deep))
        self.told(7, level_of(deep))
        for row in ((1, 0), (-1, 2), (3, -5)):
            self.told(value_grown(deep, row), value(grown(deep), row))
        self.told(False, is_growth(("times", 1, deep)))
        self.told(False, is_growth(("sum", (point(0, 0), deep))))
        sums = point(1)
        for _ in range(15):
            sums = ("sum", (sums,))
        self.told(True, is_growth(sums))
        self.told(False, is_growth(("sum", (sums,))))

    def test_constants(self):
        self.told((400, 16), (told.MOST_WORDS, told.MOST_DEEP))

    def test_what_they_grow(self):
        for _ in range(150):
            length = self.source.randint(1, 5)
            growth = random_growth(self.source, length, 3, 4, self.source.choice((1, 3, 50)))
            try:
                lot = grown(growth)
            except TooMany as error:
                self.told(60, error.limit)
                continue
            self.told(corners(lot), lot)
            for _ in range(8):
                row = random_row(self.source, length, 9)
                self.told(value_grown(growth, row), value(lot, row))

    def test_known(self):
        self.told(((0, 0), (0, 1), (1, 0)), grown(GROWN))
        self.told(((0, 0), (0, 3), (3, 0)), grown(("times", 3, GROWN)))
        self.told((2, 2, 0), (level_of(GROWN), level_of(("times", 3, GROWN)), level_of(("sum", (point(1), point(2))))))
        stick = ("join", point(0), point(1))
        self.told(((0,), (200,)), grown(("sum", (stick,) * 130 + (("times", 70, stick),))))
        self.told(((2,), (5,)), grown(("join", ("join", point(2), point(3)), ("join", point(4), point(5)))))

    def test_sixty_and_more(self):
        def sticks(many):
            return "sum", tuple(("join", point(0, 0), point(1, k)) for k in range(many))
        self.told(60, len(grown(sticks(30))))
        self.fails(TooMany, grown, sticks(31), limit=60)
        # A growth within another one, whose lot is small again.
        self.fails(TooMany, grown, ("join", sticks(31), ("sum", (
            ("join", point(-999, -999), point(9999, -999)), ("join", point(0, 0), point(0, 9999))))), limit=60)
        self.fails(TooMany, grown, ("times", 2, sticks(31)), limit=60)
        self.told(60, len(grown(("join", sticks(30), sticks(30)))))
        joins = [point(*tip) for tip in moments(61, 2)]
        while len(joins) > 1:
            pairs = [("join", *joins[at:at + 2]) for at in range(0, len(joins) - 1, 2)]
            joins = pairs + joins[2 * len(pairs):]
        self.fails(TooMany, grown, joins[0], limit=60)


class Even(Case):

    def test_faces_are_even(self):
        full = 0
        for _ in range(400):
            length = self.source.randint(1, 4)
            growth = "sum", tuple(random_growth(self.source, length, self.source.randint(0, 2), 3) for _ in range(3))
            try:
                lot, level = grown(growth), level_of(growth)
            except TooMany:
                continue
            for row in [(0,) * length] + [random_row(self.source, length, 1) for _ in range(6)]:
                dimension, size = own_volume(face(lot, row))
                if dimension >= 2 ** level and dimension > 0:
                    full += 1
                    self.told(0, size % 2)
        self.assertGreater(full, 60)

    def test_what_is_not_true(self):
        # Level 1 has odd own volumes in dimension 1, level 2 in dimension 3.
        self.told((1, 1), own_volume(grown(("join", point(0), point(1)))))
        solid = ("join", ("join", point(0, 0, 0), point(0, 0, 1)), ("join", point(0, 1, 0), point(1, 0, 0)))
        self.told((2, (3, 1)), (level_of(solid), own_volume(grown(solid))))


class OfNetworks(Case):

    def test_by_words(self):
        for _ in range(80):
            inputs = self.source.randint(1, 4)
            widths = [self.source.randint(1, 2) for _ in range(self.source.randint(0, 3))]
            network = random_network(self.source, inputs, widths, 2, 0.5)
            expected = by_words(network)
            if max(words_told(growth) for growth in expected) > 400:
                self.fails(TooMany, growths_of, network, limit=400)
                continue
            found = growths_of(network)
            self.told(expected, found)
            self.assertLessEqual(max(level_of(growth) for growth in found), network.depth)
            try:
                reading = reading_of(network)
            except TooMany:
                continue
            self.told(reading, tuple(grown(growth) for growth in found))
            self.told(True, are_growths(network, found))

    def test_known(self):
        self.told((point(0, 0), point(0, 0)), growths_of(form_network((0, 0))))
        self.told((point(0, 1), point(0, 0)), growths_of(form_network((0, 1))))
        self.told((("times", 3, point(0)), ("times", 3, point(1))), growths_of(form_network((-3,))))
        self.told(by_words(LAMP), growths_of(LAMP))

    def test_most_words(self):
        rows = tuple((1, -1) if k % 2 else (1, 1) for k in range(57))
        for sign in (1, -1):
            network = Network(2, (rows,), (0, 0) + (sign,) * 57)
            found = growths_of(network)
            self.told([172, 400], sorted(words_told(growth) for growth in found))
            self.told(True, are_growths(network, found))
            self.fails(TooMany, growths_of, Network(2, (rows,), (0, 0) + (2 * sign,) + (sign,) * 56), limit=400)
            self.fails(TooMany, growths_of, Network(2, (rows,), (1, 0) + (sign,) * 57), limit=400)
        # More words than could be written down.
        deep = random_network(self.source, 4, (8, 8, 8, 8), 9)
        self.fails(TooMany, growths_of, deep, limit=400)

    def test_four_layers_are_not_too_deep(self):
        network = Network(1, (((2,),), ((1, 3),), ((1, 0, 2),), ((3, 0, 0, 2),)), (2, 0, 0, 0, 2))
        found = growths_of(network)
        self.told(4, level_of(found[0]))
        self.told(reading_of(network), tuple(grown(growth) for growth in found))

    def test_any_pair_is_judged(self):
        network = Network(2, (((1, -1),),), (0, 1, 1))
        above, below = growths_of(network)
        for pair in ((above, below), (("times", 1, above), ("sum", (below,))), (above, point(0, 1)),
                     (("join", point(1, 1), point(0, 2)), ("join", point(0, 1), point(0, 1))),
                     (("sum", (("join", point(1, 0), point(0, 1)), point(0, 1))), point(0, 1))):
            self.told(True, are_growths(network, pair))
        for pair in ((above,), (above, below, below), [above, below], (below, above), (above, point(0, 2)),
                     (above, None),
                     (("join", above, above), below),
                     (above, ("join", ("join", point(0, 1), point(0, 1)), point(0, 1))),
                     (above, point(0,)), (("times", 2, above), below), (point(1, 1), below), ()):
            self.told(False, are_growths(network, pair))
        for bad in BAD_GROWTHS:
            self.told(False, are_growths(network, bad))
            self.told(False, are_growths(network, (bad, below)))
            self.told(False, are_growths(network, (above, bad)))
        self.told(False, are_growths(form_network((0,)), (("join", point(0), point(0)), point(0))))
        self.told(True, are_growths(form_network((0,)), (("sum", (point(10 ** 80), point(-10 ** 80))), point(0))))

    def test_growths_with_too_great_lots_are_none(self):
        network = Network(2, (((1, 0), (0, 1)),), (0, 0, 999, 999))
        side, high = ("join", point(0, 0), point(999, 0)), ("join", point(0, 0), point(0, 999))
        deep = Network(2, network.layers + (((0,) * 4,),), network.last + (0,))
        square = ("sum", (side, high))

        def sticks(many):
            return "sum", tuple(("join", point(0, 0), point(1, k)) for k in range(many))
        self.told(True, are_growths(deep, (("join", square, sticks(30)), point(0, 0))))
        self.told(False, are_growths(deep, (("join", square, sticks(31)), point(0, 0))))
        self.told(False, are_growths(network, (("join", square, sticks(30)), point(0, 0))))


class Parity(Case):

    def test_by_volumes(self):
        for _ in range(60):
            length = self.source.choice((1, 2, 4))
            reading = random_reading(self.source, length, 7, 3)
            odd = (volume(reading[0]) + volume(reading[1])) % 2
            self.told(odd, parity(reading))
            self.told({1: 0, 2: 1, 4: 2}[length] if odd else None, barred(reading))

    def test_one_for_all_readings(self):
        for _ in range(60):
            length = self.source.choice((1, 2, 4))
            one, other = random_reading(self.source, length, 4 if length == 4 else 6, 3)
            third = random_lot(self.source, 3, length, 2)
            row = random_row(self.source, length, 9)
            again = (moved(summed(one, third), row), moved(summed(other, third), row))
            self.told(parity((one, other)), parity(again))
            if len(one) + len(other) < 12:
                self.told(parity((one, other)), parity((corners(one), corners(other))))

    def test_networks_of_few_layers_are_even(self):
        for _ in range(60):
            depth = self.source.choice((0, 1, 2))
            widths = [self.source.randint(1, 3) for _ in range(depth)]
            network = random_network(self.source, 2 ** depth, widths, 3, 0.2)
            try:
                reading = reading_of(network)
            except TooMany:
                continue
            self.told(0, parity(reading))
            self.told(None, barred(reading))

    def test_the_greatest_is_odd(self):
        for length, layers in ((1, 0), (2, 1), (4, 2)):
            reading = (simplex(length), ((0,) * length,))
            self.told(1, parity(reading))
            self.told(layers, barred(reading))
            self.told(1, parity(reading[::-1]))
        # Rows that are put in change it.
        self.told(0, parity((((0, 0), (0, 1), (2, 0)), POINT)))
        self.told(0, parity(reading_of(square_network(2, 2))))

    def test_known(self):
        self.told([1, 0, 1, None, 0], [
            parity((TRIANGLE, POINT)), parity((((0, 0), (0, 1), (1, 0), (1, 1)), POINT)), barred((TRIANGLE, POINT)),
            barred((((0, 0), (2, 1)), POINT)), barred((((0,), (3,)), ((0,),)))])
        self.told(0, parity((((SIXTY,),), ((-SIXTY,),))))
        self.told(1, parity((((-SIXTY,), (SIXTY - 1,)), ((5,),))))
        # Points that are no corners do not count.
        self.told(1, parity((((0, 0), (0, 1), (0, 3), (1, 0), (1, 1), (1, 2), (3, 0)), POINT)))

    def test_sixty_and_more(self):
        for length in (2, 4):
            flat = ((0,) * length,)
            self.told(volume(moments(60, length)) % 2, parity((moments(60, length), flat)))
            self.told(volume(moments(60, length)) % 2, parity((flat, moments(60, length))))
            self.fails(TooMany, parity, (moments(61, length), flat), limit=60)
            self.fails(TooMany, barred, (flat, moments(61, length)), limit=60)
        line = tuple((at,) for at in range(400))
        self.told(399 % 2, parity((line, ((0,),))))


class Errors(Case):

    def test_growths(self):
        for bad in BAD_GROWTHS:
            self.fails(InvalidGrowth, level_of, bad)
            self.fails(InvalidGrowth, grown, bad)

    def test_networks(self):
        for bad in BAD_NETWORKS + ODD_VALUES:
            self.fails(InvalidNetwork, growths_of, bad)
            self.fails(InvalidNetwork, are_growths, bad, None)
        self.fails(TooMany, are_growths, polygon_network(31), None, limit=60)
        self.fails(TooMany, are_growths, polygon_network(31), growths_of(polygon_network(31)), limit=60)

    def test_readings(self):
        for bad in BAD_READINGS:
            self.fails(InvalidReading, parity, bad)
            self.fails(InvalidReading, barred, bad)
        for length in (3, 5, 6, 7, 8):
            reading = (simplex(length), ((0,) * length,))
            self.fails(InvalidOperation, parity, reading)
            self.fails(InvalidOperation, barred, reading)
        self.fails(InvalidOperation, parity, (moments(61, 3), moments(61, 3)))

    def test_judges_let_each_value(self):
        for odd in ODD_VALUES:
            self.told(False, is_growth(odd))
            self.told(False, are_growths(LAMP, odd))

    def test_equal_calls_and_no_change(self):
        kept = (LAMP.inputs, LAMP.layers, LAMP.last, LAMP.units)
        for call in (lambda: growths_of(LAMP), lambda: grown(GROWN), lambda: parity((TRIANGLE, POINT))):
            self.assertTrue(same(call(), call()))
        self.told(kept, (LAMP.inputs, LAMP.layers, LAMP.last, LAMP.units))
