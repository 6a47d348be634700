"""Elimination in whole numbers: what is divided goes in evenly, since all that arises are determinants."""

from math import gcd


def product_of(one, other):
    """What a row as a form tells for another one."""
    return sum([x * y for x, y in zip(one, other)])


def tells(form, points):
    """What the form tells for each of the points: member by member where there are few, as this is faster."""
    many = len(form)
    if many == 2:
        a, b = form
        return [a * x + b * y for x, y in points]
    if many == 3:
        a, b, c = form
        return [a * x + b * y + c * z for x, y, z in points]
    if many == 4:
        a, b, c, d = form
        return [a * x + b * y + c * z + d * w for x, y, z, w in points]
    if many == 5:
        a, b, c, d, e = form
        return [a * x + b * y + c * z + d * w + e * v for x, y, z, w, v in points]
    if many == 6:
        a, b, c, d, e, f = form
        return [a * x + b * y + c * z + d * w + e * v + f * u for x, y, z, w, v, u in points]
    return [sum([x * y for x, y in zip(form, point)]) for point in points]


def sum_of(one, other):
    """The sum of two rows."""
    return tuple([x + y for x, y in zip(one, other)])


def difference_of(one, other):
    """The difference of two rows."""
    return tuple([x - y for x, y in zip(one, other)])


def times(row, number):
    """The row, multiplied by the number."""
    return tuple([number * x for x in row])


def content_of(row):
    """The greatest number that divides all members, 0 for zeros."""
    found = 0
    for x in row:
        found = gcd(found, x)
        if found == 1:
            return 1
    return found


def head_place(row):
    """The place of the first member other than 0."""
    at = 0
    while row[at] == 0:
        at += 1
    return at


def mixture(weights, rows, length):
    """The sum of the rows, each times its weight."""
    total = [0] * length
    for weight, row in zip(weights, rows):
        if weight != 0:
            total = [x + weight * y for x, y in zip(total, row)]
    return tuple(total)


def eliminated(rows):
    """Independent rows and columns that make up the rank: (indices of rows, columns, determinant of both)."""
    left = [(index, list(row)) for index, row in enumerate(rows)]
    chosen, columns, sign, last = [], [], 1, 1
    for column in range(len(rows[0])):
        at = first_with(left, column)
        if at is None:
            continue
        index, head = left[at]
        if at % 2 == 1:
            sign = -sign
        del left[at]
        left = [(k, stepped(row, head, column, last)) for k, row in left]
        last = head[column]
        chosen.append(index)
        columns.append(column)
        if not left:
            break
    return chosen, columns, sign * last


def first_with(left, column):
    """The place of the first row that has other than 0 in the column, None if there is none."""
    for at, (_, row) in enumerate(left):
        if row[column] != 0:
            return at
    return None


def stepped(row, head, column, last):
    """The row without its member in the column, by a multiple of the head."""
    lead, own = head[column], row[column]
    return [(lead * x - own * y) // last for x, y in zip(row, head)]


def determinant_of(square):
    """The determinant of as many rows as they have members; 1 if there is none."""
    if not square:
        return 1
    chosen, _, size = eliminated(square)
    return size if len(chosen) == len(square) else 0


def solved(square, goal):
    """The pair (numbers, bottom), bottom above 0: each row's product with the numbers is bottom times its goal.

    The rows are as many as they have members, and independent.
    """
    table = [list(row) + [wanted] for row, wanted in zip(square, goal)]
    last = 1
    for column in range(len(table)):
        at = column
        while table[at][column] == 0:
            at += 1
        table[column], table[at] = table[at], table[column]
        head = table[column]
        table = [head if k == column else stepped(row, head, column, last) for k, row in enumerate(table)]
        last = head[column]
    if last < 0:
        return [-row[-1] for row in table], -last
    return [row[-1] for row in table], last
