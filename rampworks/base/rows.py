"""Rows: sums, products, lattices, determinants, and what is a sum of rows."""

from math import gcd

from rampworks.base.checks import (
    are_short_rows, is_short_row, is_told, is_whole, is_whole_row, need_number)
from rampworks.base.lattices import basis_of, chain_of, is_in, is_multiple, kernel_of, shares, table_of, test_of
from rampworks.base.linear import (
    content_of, determinant_of, difference_of, eliminated, head_place, mixture, product_of, solved, sum_of, times)
from rampworks.errors import InvalidOperation, InvalidRow, Refused

MOST_LENGTH = 16
MOST_ROWS = 400


def is_row(value):
    """Whether the value is a row of 1 to 16 integers."""
    return is_short_row(value, 1, MOST_LENGTH)


def are_rows(value):
    """Whether the value is a tuple of 1 to 400 rows of one length."""
    return are_short_rows(value, MOST_ROWS, MOST_LENGTH)


def need_row(row):
    """Refuses what is no row."""
    if not is_short_row(row, 1, MOST_LENGTH):
        raise InvalidRow("a row is a tuple of 1 to 16 integers")


def need_rows(rows):
    """Refuses what are no rows."""
    if not are_short_rows(rows, MOST_ROWS, MOST_LENGTH):
        raise InvalidRow("rows are a tuple of 1 to 400 rows of one length")


def need_pair(one, other):
    """Refuses what are no two rows of one length."""
    need_row(one)
    need_row(other)
    need_same(one, other)


def need_goal(rows, goal):
    """Refuses what are no rows and a goal of their length."""
    need_rows(rows)
    need_row(goal)
    if len(rows[0]) != len(goal):
        raise InvalidOperation("rows of unlike lengths")


def need_same(one, other):
    """Refuses rows of unlike lengths."""
    if len(one) != len(other):
        raise InvalidOperation("rows of unlike lengths")


def plus(one, other):
    """The sum of two rows."""
    need_pair(one, other)
    return sum_of(one, other)


def less(one, other):
    """The difference of two rows."""
    need_pair(one, other)
    return difference_of(one, other)


def dot(one, other):
    """The product of two rows."""
    need_pair(one, other)
    return product_of(one, other)


def multiple(row, number):
    """The row times the number."""
    need_row(row)
    need_number(number)
    return times(row, number)


def content(row):
    """The greatest number that divides all members, 0 for zeros."""
    need_row(row)
    return content_of(row)


def primitive(row):
    """The primitive row with its head above 0 of which the row is a multiple."""
    need_row(row)
    size = content_of(row)
    if size == 0:
        raise Refused(("zero",))
    if row[head_place(row)] < 0:
        size = -size
    return tuple([x // size for x in row])


def determinant(rows):
    """The determinant of as many rows as they have members."""
    need_rows(rows)
    if len(rows) != len(rows[0]):
        raise InvalidOperation("a determinant takes as many rows as they have members")
    return determinant_of(rows)


def rank(rows):
    """How many rows the basis has."""
    need_rows(rows)
    chosen, _, _ = eliminated(rows)
    return len(chosen)


def basis(rows):
    """The one basis of the lattice of the rows."""
    need_rows(rows)
    return basis_of(table_of(rows))


def kernel(rows):
    """The one basis of the lattice of the rows that are 0 at all of these."""
    need_rows(rows)
    chosen, _, _ = eliminated(rows)
    return kernel_of([rows[index] for index in chosen], len(rows[0]))


def fractions_of(rows, chosen, columns, goal):
    """The pair (numbers, bottom) for the chosen rows that makes the goal, or None if none does."""
    heads = [rows[index] for index in chosen]
    square = [[row[column] for row in heads] for column in columns]
    numbers, bottom = solved(square, [goal[column] for column in columns])
    if mixture(numbers, heads, len(goal)) != times(goal, bottom):
        return None
    size = gcd(bottom, content_of(numbers))
    return [number // size for number in numbers], bottom // size


def form_beside(rows, goal):
    """A form that is 0 at the independent rows and not at the goal, which is no sum of them."""
    lines = [*rows, goal]
    _, columns, _ = eliminated(lines)
    square = [[row[column] for column in columns] for row in lines]
    numbers, _ = solved(square, [0] * len(rows) + [1])
    form, size = [0] * len(goal), content_of(numbers)
    for column, number in zip(columns, numbers):
        form[column] = number // size
    return tuple(form)


def spread(chosen, numbers, many):
    """So many numbers, these at the chosen places and else 0."""
    found = [0] * many
    for index, number in zip(chosen, numbers):
        found[index] = number
    return found


def parts_or_form(rows, goal):
    """EITHER fractions of the rows that make the goal, OR a form that is 0 at the rows and not at the goal."""
    need_goal(rows, goal)
    chosen, columns, _ = eliminated(rows)
    found = fractions_of(rows, chosen, columns, goal)
    if found is None:
        return "form", form_beside([rows[index] for index in chosen], goal)
    numbers, bottom = found
    return "parts", tuple(spread(chosen, numbers, len(rows))), bottom


def is_sum(rows, goal, numbers, bottom):
    """Whether the goal times the bottom is the sum of the rows, each times its number."""
    for column, x in zip(zip(*rows), goal):
        if sum([number * y for number, y in zip(numbers, column)]) != bottom * x:
            return False
    return True


def is_parts_or_form(rows, goal, value):
    """Whether the value shows that the goal has parts, or that it has none."""
    need_goal(rows, goal)
    if is_told(value, "parts", 3):
        _, numbers, bottom = value
        if not is_whole(bottom) or bottom < 1 or not is_whole_row(numbers, len(rows)):
            return False
        return is_sum(rows, goal, numbers, bottom)
    if is_told(value, "form", 2):
        return is_test(rows, goal, value[1], 0)
    return False


def is_test(rows, goal, form, m):
    """Whether the form tells multiples of m for all rows, and for the goal none."""
    if not is_whole_row(form, len(goal)):
        return False
    for row in rows:
        if not is_multiple(form, row, m):
            return False
    return not is_multiple(form, goal, m)


def whole_or_test(rows, goal):
    """EITHER integers for the rows that make the goal, OR a form and a number that show that there are none."""
    need_goal(rows, goal)
    chosen, columns, _ = eliminated(rows)
    if fractions_of(rows, chosen, columns, goal) is None:
        return "test", form_beside([rows[index] for index in chosen], goal), 0
    links, table = chain_of(rows, chosen, len(goal))
    if not is_in(table, goal):
        form, m = test_of(table, goal)
        return "test", form, m
    later, left = shares(links, rows, goal)
    # What the later rows leave is a whole sum of the chosen ones: the bottom is 1.
    numbers, _ = fractions_of(rows, chosen, columns, left)
    found = spread(chosen, numbers, len(rows))
    for index in later:
        found[index] = later[index]
    return "whole", tuple(found)


def is_whole_or_test(rows, goal, value):
    """Whether the value shows that the goal has whole parts, or that it has none."""
    need_goal(rows, goal)
    if is_told(value, "whole", 2):
        return is_whole_row(value[1], len(rows)) and is_sum(rows, goal, value[1], 1)
    if is_told(value, "test", 3):
        _, form, m = value
        return is_whole(m) and (m == 0 or m >= 2) and is_test(rows, goal, form, m)
    return False
