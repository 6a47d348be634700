"""What the tests reckon for themselves, without the program."""

import random
import unittest
from fractions import Fraction

SIXTY = 10 ** 60 - 1
# Values of all kinds that [0.3] tells, none of which is a row, a lot, a reading, a network or a paper.
ODD_VALUES = (
    None, True, False, 0, 1, -1, 10 ** 99, -10 ** 99, "", "text", "1\n2", (), [], {}, [1, 2], {1: 2}, {"a": [1]},
    ((),), ([],), ("corner",), ("form",), ("weights",), ("alike", 1), ("parts",), ((((((((),),),),),),),),
    (None,), (True,), ("1",), ((None,),), ((True,),), (([1],),), [[1]], [(1,)], ([1],), ({},), ((1, "2"),),
    ((1, 2), (3,)), ((2,), (1,)), ((1,), (1,)), (10 ** 60,), (-10 ** 60,), ((10 ** 60,),), ((-10 ** 60,),),
    ((1, 2), [3, 4]), (1, (2,)), ((1,), 2), (1, None), (0, True), ((0, True),), tuple(range(17)),
    ("form", "form"), ("form", None), ("form", (None,)), ("parts", (), 1), ("corner", [1, 2]), ("row", {}),
    ("parted", ((0, 1),), 1), ("parted", ()), ("parted", ((),)), ("flat", ()), ("inside", 0, ()), (b"1",))


def dot(one, other):
    total = 0
    for x, y in zip(one, other, strict=True):
        total += x * y
    return total


def plus(one, other):
    return tuple(x + y for x, y in zip(one, other, strict=True))


def minus(one, other):
    return tuple(x - y for x, y in zip(one, other, strict=True))


def scale(row, number):
    return tuple(number * x for x in row)


def mix(weights, rows):
    total = (0,) * len(rows[0])
    for weight, row in zip(weights, rows, strict=True):
        total = plus(total, scale(row, weight))
    return total


def lot_of(points):
    return tuple(sorted(set(points)))


def value(points, row):
    return max(dot(point, row) for point in points)


def det(rows):
    """By fractions, column by column."""
    table, sign, size = [[Fraction(x) for x in row] for row in rows], 1, Fraction(1)
    for at in range(len(table)):
        pivot = next((k for k in range(at, len(table)) if table[k][at] != 0), None)
        if pivot is None:
            return 0
        if pivot != at:
            table[at], table[pivot], sign = table[pivot], table[at], -sign
        size *= table[at][at]
        for k in range(at + 1, len(table)):
            part = table[k][at] / table[at][at]
            table[k] = [x - part * y for x, y in zip(table[k], table[at])]
    return int(sign * size)


def span(rows):
    """How many of the rows are independent, by fractions."""
    heads = []
    for row in rows:
        left = [Fraction(x) for x in row]
        for at, head in heads:
            left = [x - left[at] * y for x, y in zip(left, head)]
        places = [at for at, x in enumerate(left) if x != 0]
        if places:
            heads.append((places[0], [x / left[places[0]] for x in left]))
    return len(heads)


def random_row(source, length, size):
    return tuple(source.randint(-size, size) for _ in range(length))


def random_lot(source, many, length, size):
    return lot_of(random_row(source, length, size) for _ in range(many))


def moments(many, length, first=0):
    """Points of a curve that are all corners, if they have two members or more."""
    return lot_of(tuple(k ** (at + 1) for at in range(length)) for k in range(first, first + many))


def changed(paper):
    """Papers that differ from the told one in one number: each integer in it, at any depth, one more and one less."""
    if isinstance(paper, int):
        return [paper + 1, paper - 1]
    if not isinstance(paper, tuple):
        return []
    return [paper[:at] + (other,) + paper[at + 1:] for at in range(len(paper)) for other in changed(paper[at])]


def spoilt(paper):
    """Papers that are spoilt in form: True for 1, False for 0, a list for a tuple, a member too many or too few."""
    if isinstance(paper, int) and paper in (0, 1):
        return [bool(paper)]
    if not isinstance(paper, tuple):
        return []
    inner = [paper[:at] + (other,) + paper[at + 1:] for at in range(len(paper)) for other in spoilt(paper[at])]
    return inner + [list(paper), paper + (0,), paper + (1,), paper[:-1]]


def same(one, other):
    """Whether two values are equal, with equal kinds at all depths."""
    if type(one) is not type(other):
        return False
    if isinstance(one, (tuple, list)):
        return len(one) == len(other) and all(same(x, y) for x, y in zip(one, other))
    return one == other


def longest(paper):
    """The digits of the longest integer in a value."""
    if isinstance(paper, int):
        return len(str(abs(paper)))
    return max((longest(x) for x in paper), default=0) if isinstance(paper, (tuple, list)) else 0


class Case(unittest.TestCase):
    """A test with one source of numbers that are the same each time."""

    def setUp(self):
        self.source = random.Random(self.id())

    def told(self, expected, got):
        self.assertTrue(same(expected, got), f"{got!r} is not {expected!r}")

    def fails(self, error, call, *passed, **kept):
        """The call raises just this error, which keeps what is told."""
        with self.assertRaises(error) as caught:
            call(*passed)
        self.assertIs(type(caught.exception), error)
        for name, kept_value in kept.items():
            self.told(kept_value, getattr(caught.exception, name))

    def refuses_all(self, judge, papers):
        for paper in papers:
            self.told(False, judge(paper))

    def judges(self, judge, paper):
        """The judge takes the paper, and nothing that is spoilt in form or no paper at all."""
        self.told(True, judge(paper))
        self.refuses_all(judge, spoilt(paper))
        self.refuses_all(judge, ODD_VALUES)
