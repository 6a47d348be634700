"""Stage 22: claims."""

from tests.helpers import (
    ODD_VALUES, SIXTY, Case, changed, det, dot, longest, lot_of, minus, mix, moments, plus, random_lot, random_row,
    scale, spoilt, value)
from tests.test_networks import random_network
from tests.test_readings import BAD_READINGS

from rampworks.errors import InvalidClaim, TooMany
from rampworks.hull.corners import corners
from rampworks.hull.sums import moved, summed
from rampworks.hull.volumes import volume
from rampworks.judge.claims import answered, is_claim, opposite, takes
from rampworks.net.networks import Network, form_network
from rampworks.net.readings import reading_of
from rampworks.stick.layer import bend_at

TRIANGLE, SQUARE = ((0, 0), (0, 1), (1, 0)), ((0, 0), (0, 1), (1, 0), (1, 1))
STICK, POINT = ((0, 0), (1, 1)), ((0, 0),)
PAIRS = (("corner", "within"), ("alike", "unlike"), ("full", "flat"), ("agree", "differ"), ("straight", "bent"),
         ("odd", "even"), ("single", "several"), ("whole", "broken"))
TURN = {**dict(PAIRS), **{other: one for one, other in PAIRS}}


def read(reading, row):
    return value(reading[0], row) - value(reading[1], row)


def sums(one, other):
    return lot_of(plus(x, y) for x in one for y in other)


def is_half(lot, other, pairs):
    return len(lot) == len(pairs) and all(
        number > 0 and min(weights) >= 0 and sum(weights) == number and mix(weights, other) == scale(point, number)
        for point, (number, weights) in zip(lot, pairs))


def is_cover(lot, other, cover):
    return is_half(lot, other, cover[0]) and is_half(other, lot, cover[1])


def size_in(lot, part):
    """vol by the simplices of a parting, 0 for a row."""
    if part[0] == "flat":
        assert any(part[1]) and len({dot(part[1], point) for point in lot}) == 1
        return 0
    size = sum(abs(det([minus(lot[k], lot[simplex[0]]) for k in simplex[1:]])) for simplex in part[1])
    assert size == volume(lot)
    return size


def is_shown(claim, paper):
    """Whether the paper shows the claim, by sums of its own, as far as these are short."""
    word, about = claim[0], claim[1]
    if word == "corner":
        return all(dot(paper, about[claim[2]]) > dot(paper, other) for other in about if other != about[claim[2]])
    if word == "within":
        number, weights = paper
        return weights[claim[2]] == 0 and is_half((about[claim[2]],), about, ((number, weights),))
    if word == "alike":
        return is_cover(about, claim[2], paper)
    if word == "unlike":
        return value(about, paper) != value(claim[2], paper)
    if word in ("full", "flat"):
        return (size_in(about, ("parted" if word == "full" else "flat", paper)) > 0) == (word == "full")
    if word == "agree":
        return is_cover(sums(about[0], claim[2][1]), sums(claim[2][0], about[1]), paper)
    if word == "differ":
        return read(about, paper) != read(claim[2], paper)
    if word == "straight":
        return is_cover(about[0], tuple(plus(point, paper[0]) for point in about[1]), paper[1])
    if word == "bent":
        return read(about, plus(*paper)) != read(about, paper[0]) + read(about, paper[1])
    if word in ("odd", "even"):
        return sum(size_in(lot, part) for lot, part in zip(about, paper)) % 2 == (word == "odd")
    if word == "several":
        return paper[0][0] == paper[1][0] and bend_at(about, paper[0]) != bend_at(about, paper[1])
    if word == "whole":
        return mix(paper, about) == claim[2]
    if word == "broken":
        form, m = paper
        told = [dot(form, row) for row in (*about, claim[2])]
        return m != 1 and m >= 0 and [x % m if m else x for x in told[:-1]] == [0] * len(about) and (
            told[-1] % m if m else told[-1]) != 0
    return paper.depth < 2


def some_claims(source):
    """A claim of each kind, true or false."""
    length = source.randint(1, 4)
    size = source.choice((1, 2, 5))
    lot, other = (random_lot(source, source.randint(1, 7), length, size) for _ in range(2))
    if source.random() < 0.5:
        other = source.choice((corners(lot), lot_of(lot + tuple(plus(x, (0,) * length) for x in lot[:1]))))
    above, below, part = (random_lot(source, source.randint(1, 3), length, size) for _ in range(3))
    reading, beside = (above, below), (summed(above, part)[:12], summed(below, part)[:12])
    if source.random() < 0.3:
        reading = (moved(below, random_row(source, length, 3)), below)
    if source.random() < 0.3:
        reading = reading_of(random_network(source, length, [2], 2, 0.3))
    rows = tuple(random_row(source, length, size) for _ in range(source.randint(1, 4)))
    goal = mix([source.randint(-2, 2) for _ in rows], rows) if source.random() < 0.5 else random_row(source, length, 3)
    claims = [("corner", lot, source.randrange(len(lot))), ("alike", lot, other), ("full", lot),
              ("agree", reading, beside if source.random() < 0.5 else reading), ("straight", reading),
              ("single", reading), ("whole", rows, goal)]
    if length != 3:
        claims.append(("odd", reading))
    return [(TURN[claim[0]], *claim[1:]) if source.random() < 0.5 else claim for claim in claims]


class Answered(Case):

    def test_one_of_both(self):
        found = {}
        for _ in range(70):
            for claim in some_claims(self.source):
                self.told(True, is_claim(claim))
                try:
                    told, paper = answered(claim)
                except TooMany as error:
                    self.assertIn(claim[0], ("single", "several"))
                    self.told(60, error.limit)
                    continue
                found[told[0]] = found.get(told[0], 0) + 1
                self.assertIn(told, (claim, opposite(claim)))
                self.assertTrue(is_shown(told, paper))
                self.told(True, takes(told, paper))
                self.told(False, takes(opposite(told), paper))
                if not isinstance(paper, Network):
                    self.assertLessEqual(longest(paper), 50)
        self.assertEqual(set(found), set(TURN))

    def test_papers_that_are_spoilt(self):
        for _ in range(12):
            for claim in some_claims(self.source):
                try:
                    told, paper = answered(claim)
                except TooMany:
                    continue
                if isinstance(paper, Network):
                    continue
                for other in spoilt(paper):
                    self.told(False, takes(told, other))
                for other in changed(paper)[:20]:
                    if takes(told, other):
                        self.assertTrue(is_shown(told, other))

    def test_points_between_those_of_the_other_lot(self):
        one, other = ((0,), (1,), (4,)), ((0,), (2,), (3,), (4,))
        told, paper = answered(("alike", one, other))
        self.told("alike", told[0])
        self.assertTrue(is_shown(told, paper))
        self.told(True, takes(told, paper))
        reading, beside = (one, ((0,), (3,))), (other, ((0,), (1,), (3,)))
        told, paper = answered(("differ", reading, beside))
        self.told("agree", told[0])
        self.assertTrue(is_shown(told, paper))
        told, paper = answered(("bent", (tuple((2 * x,) for x, in other), tuple((2 * x + 5,) for x, in one))))
        self.told("straight", told[0])
        self.assertTrue(is_shown(told, paper))

    def test_bent_in_a_thin_cone_alone(self):
        # The lesser one of two ramps is 0 but between two planes near one another.
        for size in (3, 90, 10 ** 6, 10 ** 20):
            units = ((1, -size), (-size, size * size + 1))
            thin = reading_of(Network(2, (units, ((0, 0, 1, -1),)), (5, -7, 1, 0, -1)))
            told, paper = answered(("straight", thin))
            self.told("bent", told[0])
            self.assertTrue(is_shown(told, paper))
            self.told(True, takes(told, paper))
            told, paper = answered(("agree", thin, (((5, -7),), POINT)))
            self.told("differ", told[0])
            self.assertTrue(is_shown(told, paper))

    def test_opposites(self):
        for _ in range(20):
            for claim in some_claims(self.source):
                other = opposite(claim)
                self.told((TURN[claim[0]], *claim[1:]), other)
                self.told(claim, opposite(other))
                self.told(True, is_claim(other))

    def test_twice_the_same(self):
        for claim in some_claims(self.source):
            one, other = answered(claim), answered(claim)
            self.assertTrue(one[0] == other[0] and one[1] == other[1])


class Papers(Case):

    def taken(self, claim, papers):
        for paper in papers:
            self.told(True, takes(claim, paper))
            self.told(False, takes(opposite(claim), paper))

    def refused(self, claim, papers):
        for paper in papers + ODD_VALUES:
            self.told(False, takes(claim, paper))

    def test_points(self):
        self.taken(("corner", SQUARE, 3), ((1, 1), (10 ** 99, 1), (2, 5)))
        self.refused(("corner", SQUARE, 3), ((1, 0), (0, 0), (-1, -1), (True, True), [1, 1], (1, 1, 1)))
        line = ((0, 0), (1, 1), (2, 2))
        self.taken(("within", line, 1), ((2, (1, 0, 1)), (10 ** 99 * 2, (10 ** 99, 0, 10 ** 99))))
        self.refused(("within", line, 1), (
            (1, (0, 1, 0)), (2, (1, 0, 1), 0), (2, [1, 0, 1]), (0, (0, 0, 0)), (True, (0, 1, 0)), (2, (1, 0)),
            (4, (1, 2, 1)), (1, 1), (-2, (-1, 0, -1))))

    def test_lots(self):
        one, other = ((0,), (1,), (2,)), ((0,), (2,))
        cover = (((1, (1, 0)), (2, (1, 1)), (1, (0, 1))), ((1, (1, 0, 0)), (1, (0, 0, 1))))
        self.taken(("alike", one, other), (
            cover, (((3, (3, 0)), (4, (2, 2)), (1, (0, 1))), ((1, (1, 0, 0)), (10 ** 99, (0, 0, 10 ** 99))))))
        self.refused(("alike", one, other), (*spoilt(cover), *changed(cover), cover[::-1]))
        self.taken(("unlike", SQUARE, TRIANGLE), ((1, 1), (10 ** 99, 1)))
        self.refused(("unlike", SQUARE, TRIANGLE), ((1, 0), (0, 0), (-1, -1), (1, 1, 1), [1, 1], (True, 1)))
        self.taken(("full", TRIANGLE), (((0, 1, 2),),))
        self.taken(("full", SQUARE), (((0, 1, 2), (1, 2, 3)), ((0, 1, 3), (0, 2, 3))))
        self.refused(("full", SQUARE), (((0, 1, 2),), ((0, 1, 2), (0, 1, 3)), ((1, 2, 3), (0, 1, 2)), ((0, 1, 1),)))
        self.taken(("flat", STICK), ((1, -1), (-3, 3)))
        self.refused(("flat", STICK), ((0, 0), (1, 1), (1, -1, 0), [1, -1], ((0, 1),)))

    def test_readings(self):
        one, other = (STICK, POINT), (moved(STICK, (1, 0)), ((1, 0),))
        # All sums of two points: of points that are none of the other sum's, too.
        told, cover = answered(("agree", one, other))
        self.told(("agree", one, other), told)
        self.taken(told, (cover,))
        self.refused(told, (*spoilt(cover), *changed(cover), cover + cover))
        wide = (((0, 0), (1, 1), (2, 2)), POINT)
        told, cover = answered(("agree", wide, (((0, 0), (2, 2)), POINT)))
        self.told(True, is_cover(wide[0], ((0, 0), (2, 2)), cover))
        self.taken(told, (cover,))
        self.taken(("differ", one, (SQUARE, POINT)), ((1, -1), (-1, 10 ** 99)))
        self.refused(("differ", one, (SQUARE, POINT)), ((1, 1), (0, 0), (-1, -1), (1, -1, 0), (True, -1)))
        cover = (((1, (1, 0)), (1, (0, 1))), ((1, (1, 0)), (1, (0, 1))))
        self.taken(("straight", (STICK, STICK)), (((0, 0), cover),))
        self.refused(("straight", (STICK, STICK)), (
            ((1, 0), cover), ((0, 0), cover, 1), [(0, 0), cover], ((0, False), cover), cover, ((0, 0), cover[:1])))
        self.taken(("bent", (STICK, POINT)), (((1, 0), (-1, 0)), ((-10 ** 99, 0), (1, 0))))
        self.refused(("bent", (STICK, POINT)), (
            ((1, 0), (1, 0)), ((1, -1), (-1, 1)), ((1, 0), [-1, 0]), ((1, 0),), ((1, 0), (-1, 0), (0, 0))))

    def test_parities(self):
        odd = (("parted", ((0, 1, 2),)), ("flat", (1, 0)))
        self.taken(("odd", (TRIANGLE, POINT)), (odd, (odd[0], ("flat", (5, -7)))))
        self.refused(("odd", (TRIANGLE, POINT)), (
            odd[::-1], odd[:1], odd + odd[:1], list(odd), (odd[0], ("flat", (0, 0))), (((0, 1, 2),), (1, 0)),
            (("parted", ((0, 1, 2),), 1), odd[1]), (("full", ((0, 1, 2),)), odd[1])))
        even = (("parted", ((0, 1, 2),)), ("parted", ((0, 1, 2),)))
        self.taken(("even", (TRIANGLE, TRIANGLE)), (even,))
        self.refused(("odd", (TRIANGLE, TRIANGLE)), (even,))
        self.told("odd", answered(("even", (((0,), (3,)), ((5,),))))[0][0])
        corner = lot_of([(0,) * 4] + [tuple(int(k == at) for k in range(4)) for at in range(4)])
        self.told("odd", answered(("odd", (corner, ((0,) * 4,))))[0][0])
        self.told("even", answered(("odd", (corner, corner)))[0][0])

    def test_layers(self):
        ramp = Network(2, (((1, 1),),), (0, 0, 1))
        self.taken(("single", (STICK, POINT)), (ramp, Network(2, (((-1, -1),),), (1, 1, 1))))
        self.refused(("single", (STICK, POINT)), (
            form_network((1, 1)), Network(2, (((1, 1), (0, 0)),), (0, 0, 1, 0)), Network(2, (((1, 1),),), (0, 0, 2)),
            Network(2, (((1, 1),), ((0, 0, 1),)), (0, 0, 0, 1)), ("layer", ramp), (ramp,)))
        self.taken(("single", (STICK, STICK)), (form_network((0, 0)),))
        places = ((1, 0), (0, -1)), ((1, 0), (0, 1))
        self.taken(("several", (TRIANGLE, POINT)), (places, places[::-1]))
        self.refused(("several", (TRIANGLE, POINT)), (
            places[:1] * 2, places + places[:1], list(places), (places[0], ((0, 1), (1, 0))), ("places", *places)))

    def test_rows(self):
        whole, broken = ("whole", ((2, 1), (4, 5)), (2, 4)), ("broken", ((2, 0), (0, 3)), (4, 2))
        self.taken(whole, ((-1, 1),))
        self.refused(whole, ((1, 1), (-1, 1, 0), (-1,), [-1, 1], (-1, True)))
        self.taken(broken, (((0, 1), 3), ((0, 2), 3), ((0, 10 ** 99), 3)))
        self.refused(broken, (((0, 1), 1), ((0, 1), 0), ((0, 1), -3), ((1, 0), 2), ((0, 1), 3, 0), [(0, 1), 3]))
        self.taken(("broken", ((1, 2),), (1, 3)), (((-2, 1), 0),))
        # Longer rows than those of lots, and many of them: as in stage 1.
        wide = ("whole", tuple(tuple(int(k == at) for k in range(16)) for at in range(16)), tuple(range(16)))
        self.told((wide, tuple(range(16))), answered(wide))
        self.told(True, is_claim(("whole", ((1,),) * 400, (5,))))
        self.told(False, is_claim(("whole", ((1,),) * 401, (5,))))
        self.told(False, is_claim(("whole", ((1,) * 17,), (5,) * 17)))

    def test_not_true(self):
        # A paper about a lot is none for another lot with the same corners.
        more = ((0, 0), (1, 0), (2, 0), (0, 1))
        paper = answered(("full", lot_of(TRIANGLE)))[1]
        self.told(False, takes(("full", lot_of(more)), paper))
        # What is even need not be single.
        both = (lot_of(((0, 0), (0, 2), (2, 0))), POINT)
        self.told("even", answered(("even", both))[0][0])
        self.told("several", answered(("single", both))[0][0])


class Claims(Case):

    def test_values(self):
        lot20, lot21 = moments(20, 2), moments(21, 2)
        r12, r13 = (moments(12, 2), moments(12, 2)), (moments(13, 2), POINT)
        good = [
            ("corner", lot20, 19), ("within", SQUARE, 0), ("alike", lot20, lot20), ("unlike", POINT, SQUARE),
            ("full", lot20), ("flat", ((0,) * 4,)), ("agree", r12, r12), ("differ", r12, (POINT, POINT)),
            ("straight", r12), ("bent", r12), ("odd", r12), ("even", (((0,),), ((1,),))), ("single", r12),
            ("several", r12), ("whole", ((1, 2),), (1, 2)), ("broken", ((SIXTY,),), (-SIXTY,)),
            ("odd", (((0,) * 4,), ((1,) * 4,))), ("full", ((-SIXTY,), (SIXTY,)))]
        for claim in good:
            self.told(True, is_claim(claim))
        five, three = ((0,) * 5,), ((0,) * 3,)
        bad = [
            ("corner", SQUARE, 4), ("corner", SQUARE, -1), ("corner", SQUARE, True), ("corner", SQUARE), ("corner", lot21, 0),
            ("corner", SQUARE, 0, 0), ("corner", five, 0), ("corner", ((1, 0), (0, 0)), 0), ("corner", (), 0),
            ("corner", [(0, 0)], 0), ("corner", SQUARE, "0"), ("alike", SQUARE), ("alike", SQUARE, ((0,),)),
            ("alike", SQUARE, lot21), ("alike", five, five), ("full", lot21), ("full", five), ("full", SQUARE, 0),
            ("full",), ("flat", ((0, True),)), ("flat", ((SIXTY + 1,),)), ("agree", r12), ("agree", r12, r13),
            ("agree", r13, r12), ("agree", (POINT, POINT), (((0,),), ((0,),))), ("straight", r13), ("bent", POINT),
            ("bent", (five, five)), ("odd", (three, three)), ("even", (three, three)), ("odd", (five, five)),
            ("single", r13), ("several", (five, five)), ("whole", ((1, 2),), (1,)), ("whole", (), (1,)), ("whole", ((1,),)),
            ("whole", ((1, 2), (1,)), (1, 2)), ("broken", ((True,),), (1,)), ("broken", ((1,),), (SIXTY + 1,)),
            ("Corner", SQUARE, 0), ("corners", SQUARE, 0), ("", SQUARE), (None, SQUARE), (["corner"], SQUARE, 0),
            ["corner", SQUARE, 0], (("corner",), SQUARE, 0), "corner", (True, SQUARE), ("layer", r12)]
        for claim in tuple(bad) + ODD_VALUES + tuple(("straight", reading) for reading in BAD_READINGS):
            self.told(False, is_claim(claim))
            self.fails(InvalidClaim, opposite, claim)
            self.fails(InvalidClaim, takes, claim, None)
            self.fails(InvalidClaim, answered, claim)
        for claim in good:
            for other in spoilt(claim):
                if other != claim + (0,) or len(claim) == 3:
                    self.told(False, is_claim(other) and not isinstance(other, tuple))

    def test_bounds(self):
        for claim in (("corner", moments(20, 4), 7), ("full", moments(20, 4)), ("alike", moments(20, 4), moments(20, 4)),
                      ("alike", moments(20, 4), moments(19, 4)), ("flat", moments(20, 3)),
                      ("odd", (moments(12, 4), moments(12, 4))), ("straight", (moments(12, 4), moments(12, 4, 1))),
                      ("agree", (moments(12, 2), moments(12, 2, 3)), (moments(12, 2), moments(12, 2, 3))),
                      ("agree", (moments(12, 3), moments(12, 3)), (moments(12, 3, 2), moments(12, 3, 2))),
                      ("within", tuple((k, 0) for k in range(20)), 10)):
            told, paper = answered(claim)
            self.told(True, takes(told, paper))
            self.assertTrue(is_shown(told, paper))
            self.told(False, takes(opposite(told), paper))
        long_lot = tuple(sorted(random_row(self.source, 3, SIXTY) for _ in range(6)))
        for claim in (("full", long_lot), ("corner", long_lot, 3), ("bent", (long_lot, long_lot[:2]))):
            told, paper = answered(claim)
            self.told(True, takes(told, paper))

    def test_refused_readings(self):
        wide = (moments(12, 4), random_lot(self.source, 12, 4, 9))
        self.assertGreater(len(summed(*wide)), 60)
        for word in ("single", "several"):
            for paper in (None, form_network((0,) * 4), (1, 2), ((1,), (2,))):
                self.fails(TooMany, takes, (word, wide), paper, limit=60)
            self.fails(TooMany, answered, (word, wide), limit=60)
            long_one = (((0, 10 ** 30),), POINT)
            self.fails(TooMany, answered, (word, long_one), limit=10 ** 30)
            self.told(word == "single", takes((word, long_one), form_network((0, 10 ** 30))))
        for word in ("agree", "differ"):
            self.told("agree", answered((word, wide, wide))[0][0])
        self.told("bent", answered(("straight", wide))[0][0])

    def test_papers_let_each_value(self):
        for claim in some_claims(self.source) + some_claims(self.source):
            for paper in ODD_VALUES:
                told = takes(claim, paper)
                self.assertIn(told, (True, False))
                if told:
                    self.assertTrue(is_shown(claim, paper))
